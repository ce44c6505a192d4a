/- The law on RingPlaces answers true at all arguments. No condition. -/
import Derived.Test.YthnifmgjgdmmoabRows
import Derived.Test.YthnifmgjgdmmoabSlc
import Derived.Test.YthnifmgjgdmmoabSmall
import Derived.Test.YthnifmgjgdmmoabOpens
import Derived.Test.YthnifmgjgdmmoabPlaces
import Derived.Test.YthnifmgjgdmmoabPlaceSet
import Derived.Test.YthnifmgjgdmmoabListP
import Derived.Test.YthnifmgjgdmmoabGive
import Derived.Test.YthnifmgjgdmmoabFloats
import Derived.Test.YthnifmgjgdmmoabRound
import Derived.Test.YthnifmgjgdmmoabValues
import Derived.Test.YthnifmgjgdmmoabConv
import Derived.Test.YthnifmgjgdmmoabFWalk
import Derived.Test.YthnifmgjgdmmoabFinWalk
import Derived.Test.YthnifmgjgdmmoabFloat2
import Derived.Test.YthnifmgjgdmmoabFloat3
import Derived.Test.YthnifmgjgdmmoabPhase
import Derived.Test.YthnifmgjgdmmoabSine
import Derived.Test.YthnifmgjgdmmoabPhasor
import Derived.Test.YthnifmgjgdmmoabListC
import Derived.Test.YthnifmgjgdmmoabSteerNum
import Derived.Test.YthnifmgjgdmmoabRingNum
import Derived.Test.YthnifmgjgdmmoabRing
import Derived.WalkKit
import Derived.ProofKit
import Derived.OpenShut
import Derived.ShutString
import Derived.ChangeOld
import Derived.Below
import Derived.Lib.Hide
import Derived.BigQuiet
import Derived.Deep.QuietTactic
import Derived.WalkLawsBesides
import Derived.Outline
import Derived.Deep.LoopGhost
namespace Go.Proofs.Ythnifmgjgdmmoab.ringPlaces
open Go.ChangeShapes Go.WideShapes Go.ChangeAt Go.RowKit
open Go.ChangeMaps (open_string shut_string)
set_option linter.unusedVariables false
theorem own : ownKnob Try.prog.godebug = none := by kernel_rfl
theorem laidOut : laidOutB Try.prog = true := by kernel_rfl
open Go Go.RowKit
open Go.Proofs.Ythnifmgjgdmmoab.slc Go.Proofs.Ythnifmgjgdmmoab.small Go.Proofs.Ythnifmgjgdmmoab.opens Go.Proofs.Ythnifmgjgdmmoab.places Go.Proofs.Ythnifmgjgdmmoab.listP Go.Proofs.Ythnifmgjgdmmoab.give Go.Proofs.Ythnifmgjgdmmoab.ringNum Go.Proofs.Ythnifmgjgdmmoab.ring

def ringR (c r : Int) : List (Int × Int) × Bool := if (1 ≤ c ∧ c ≤ 16) ∧ -4096 ≤ r ∧ r ≤ 4096 then (given (rgl c r c.toNat), vp (rgl c r c.toNat)) else ([], false)
theorem ringR_len (c r : Int) : (ringR c r).1.length ≤ 16 := by
  unfold ringR
  split
  · rename_i h
    exact Nat.le_trans (given_len _) (by rw [rgl_len]; omega)
  · exact Nat.zero_le _
theorem ring_spec_no (c r : Int) (w : World) (h : (c < 1 ∨ 16 < c) ∨ (r < -4096 ∨ 4096 < r)) :
    Calls Try.prog 65 #[.int .i64 c, .int .i64 r] w fun e w' => e = .returned (.tuple #[.slice none 0 0, .bool false]) ∧ w = w' := by
  by_cases hc : c < 1 ∨ 16 < c
  · clear h
    go_enter Try.func65, Try.ntmps65
    go_wp2_with fail
    refine (in_no _ _ _ _ hc).mono ?_
    rintro e w' ⟨rfl, rfl⟩
    go_wp2_with fail
    go_ret2
    exact ⟨rfl, rfl⟩
  · have hr : r < -4096 ∨ 4096 < r := by omega
    have c1 : 1 ≤ c := by omega
    have c2 : c ≤ 16 := by omega
    clear h hc
    go_enter Try.func65, Try.ntmps65
    go_wp2_with fail
    refine (in_yes _ _ _ _ c1 c2).mono ?_
    rintro e w' ⟨rfl, rfl⟩
    go_wp2_with fail
    refine (step_no _ _ hr).mono ?_
    rintro e w' ⟨rfl, rfl⟩
    go_wp2_with fail
    go_ret2
    exact ⟨rfl, rfl⟩
theorem ring_impl_no (c r : Int) (w : World) (h : (c < 1 ∨ 16 < c) ∨ (r < -4096 ∨ 4096 < r)) :
    Calls Try.prog 54 #[.int .i64 c, .int .i64 r] w fun e w' => e = .returned (.tuple #[.slice none 0 0, .bool false]) ∧ w = w' := by
  by_cases hc : c < 1 ∨ 16 < c
  · clear h
    go_enter Try.func54, Try.ntmps54
    go_wp2_with fail
    refine (count_no _ _ hc).mono ?_
    rintro e w' ⟨rfl, rfl⟩
    go_wp2_with fail
    go_ret2
    exact ⟨rfl, rfl⟩
  · have hr : r < -4096 ∨ 4096 < r := by omega
    have c1 : 1 ≤ c := by omega
    have c2 : c ≤ 16 := by omega
    clear h hc
    go_enter Try.func54, Try.ntmps54
    go_wp2_with fail
    refine (count_yes _ _ c1 c2).mono ?_
    rintro e w' ⟨rfl, rfl⟩
    go_wp2_with fail
    refine (offset_no _ _ hr).mono ?_
    rintro e w' ⟨rfl, rfl⟩
    go_wp2_with fail
    go_ret2
    exact ⟨rfl, rfl⟩
theorem spec_c (c r : Int) : GivesP 65 #[.int .i64 c, .int .i64 r] (ringR c r).1 (ringR c r).2 := by
  intro w
  unfold ringR
  by_cases h : (1 ≤ c ∧ c ≤ 16) ∧ -4096 ≤ r ∧ r ≤ 4096
  · rw [if_pos h]
    obtain ⟨k, rfl⟩ : ∃ k : Nat, c = (k : Int) := ⟨c.toNat, by omega⟩
    rw [Int.toNat_natCast]
    exact ring_spec k r w (by omega) (by omega) h.2.1 h.2.2
  · rw [if_neg h]
    refine (ring_spec_no c r w (by omega)).mono ?_
    rintro e w' ⟨rfl, rfl⟩
    exact ⟨none, 0, rfl, World.ownsRow_nil _ _ _ _, World.grownBy.refl _ _⟩
theorem impl_c (c r : Int) : GivesP 54 #[.int .i64 c, .int .i64 r] (ringR c r).1 (ringR c r).2 := by
  intro w
  unfold ringR
  by_cases h : (1 ≤ c ∧ c ≤ 16) ∧ -4096 ≤ r ∧ r ≤ 4096
  · rw [if_pos h]
    obtain ⟨k, rfl⟩ : ∃ k : Nat, c = (k : Int) := ⟨c.toNat, by omega⟩
    rw [Int.toNat_natCast]
    exact ring_impl k r w (by omega) (by omega) h.2.1 h.2.2
  · rw [if_neg h]
    refine (ring_impl_no c r w (by omega)).mono ?_
    rintro e w' ⟨rfl, rfl⟩
    exact ⟨none, 0, rfl, World.ownsRow_nil _ _ _ _, World.grownBy.refl _ _⟩

set_option maxHeartbeats 400000 in
set_option maxRecDepth 100000 in
theorem law (c r : Int) (xs : List (Int × Int)) (ok : Bool) (w : World) (hl : xs.length ≤ 65536) (hs : GivesP 65 #[.int .i64 c, .int .i64 r] xs ok) (hi : GivesP 54 #[.int .i64 c, .int .i64 r] xs ok) :
    Calls Try.prog 11 #[.int .i64 c, .int .i64 r] w fun e w' => e = .returned (.bool true) ∧ Below w.heap.size w w' := by
  have hints := pcell_ints xs (xs.length * 2)
  go_enter Try.func11, Try.ntmps11
  go_wp2_with fail
  refine (hs _).mono ?_
  rintro e w1 ⟨A1, c1, rfl, ho1, hg1⟩
  go_wp2_with fail
  refine (hi _).mono ?_
  rintro e w2 ⟨A2, c2, rfl, ho2, hg2⟩
  have R1 := Rd.of_lst ho1 rfl
  have R1b := (R1.kept0 hg2 (Nat.le_refl _)).mono hg2.size
  have R2 := Rd.of_lst ho2 rfl
  go_wp2_with fail
  refine (eqP_true _ _ _ _ _ _ _ _ (by omega) (Nat.le_refl _) hints R2 R1b).mono ?_
  rintro e w3 ⟨rfl, hg3⟩
  have ho2c := own_kept0 ho2 hg3
  have R1c := R1.kept0 (hg2.trans hg3) (Nat.le_refl _)
  have hsz3 := Nat.le_trans hg2.size hg3.size
  go_wp2_with fail
  refine (markP1 _ _ _ _ _ _ _ (by omega) ho2c).mono ?_
  rintro e w4 ⟨rfl, ho4, hg4⟩
  have R1d := R1c.kept hg4 hsz3 (far_of ho2 (Nat.le_refl _))
  have hsz4 := Nat.le_trans hsz3 hg4.size
  have R4 := Rd.of_lst ho4 rfl
  go_wp2_with fail
  refine (heldP1 _ _ _ _ _ (by omega) R4).mono ?_
  rintro e w' ⟨rfl, rfl⟩
  go_wp2_with fail
  refine (hi _).mono ?_
  rintro e w5 ⟨A5, c5, rfl, ho5, hg5⟩
  have R5 := Rd.of_lst ho5 rfl
  have R1e := (R1d.kept0 hg5 hsz4).mono (Nat.le_trans hsz4 hg5.size)
  go_wp2_with fail
  refine (eqP_true _ _ _ _ _ _ _ _ (by omega) (Nat.le_refl _) hints R5 R1e).mono ?_
  rintro e w6 ⟨rfl, hg6⟩
  have R4f := R4.kept0 (hg5.trans hg6) (Nat.le_refl _)
  go_wp2_with fail
  refine (heldP1 _ _ _ _ _ (by omega) R4f).mono ?_
  rintro e w' ⟨rfl, rfl⟩
  go_wp2_with fail
  go_ret
  exact ⟨rfl, gb_below ((gb_new ((hg1.trans hg2).trans hg3) hg4 (base_of ho2 hg1.size)).trans (hg5.trans hg6))⟩

theorem walk (a0 a1 : Int) (w : World) (w0 : (Lit.int .i64 a0).wf = true) (w1 : (Lit.int .i64 a1).wf = true) :
    Calls Try.prog 11 #[.int .i64 a0, .int .i64 a1] w fun e w' => e = .returned (.bool true) ∧ Below w.heap.size w w' :=
  law a0 a1 _ _ w (Nat.le_trans (ringR_len a0 a1) (by omega)) (spec_c a0 a1) (impl_c a0 a1)

set_option maxRecDepth 100000 in
theorem lifted (os : Os) (started : os.Started) (H : Type) (enc : TypeId × Value → H) :
    ReturnsInHanded {} Try.checked os 11 .any (Rows.fnExactRingPlacesSpec.pre6 enc Try.prog Try.f11 Rows.fnExactRingPlacesRow.domain false) (Rows.fnExactRingPlacesSpec.post enc Try.prog Try.f11 false true false false) := by
  refine returnsInHanded_of_change (C := Try.checked) own started (by kernel_rfl) Try.func11
    (ChangeSpec.witness6 (enc := enc) (C := Try.checked) false ⟨#[], #[.int .i64 0, .int .i64 0], []⟩ 8 (by kernel_rfl) (by kernel_rfl) (by kernel_rfl) (by kernel_rfl)) ?_
  intro W base args ds gs before hval0 hW hcnd _
  have hval : ∀ (j : Nat) t v, Try.f11.params[j]? = some t → args[j]? = some v → Value.okWide Try.prog W .any base t v := hval0
  have hW' := hW
  obtain ⟨p, q, hA0, hV, rfl, hfz, hnd⟩ := hW
  have hA : DataW.TrodAll enc Try.prog W 0 (fun _ => true) true Try.f11.params.toList args.toList ds p := hA0
  rw [Try.params11] at hA hval
  obtain ⟨v0, vs0, d0, ds0, p0, q0, hargs, rfl, rfl, h0, r0⟩ := trodAll_cons hA
  obtain ⟨v1, vs1, d1, ds1, p1, q1, rfl, rfl, rfl, h1, r1⟩ := trodAll_cons r0
  obtain ⟨rfl, rfl, rfl⟩ := trodAll_nil r1
  obtain rfl : args = #[v0, v1] := by cases args; simp_all
  obtain ⟨rfl, rfl⟩ := trodVars_none hV
  obtain ⟨a0, rfl, rfl, rfl, w0⟩ := open_int Try.underlying2 (hval 0 2 v0 rfl rfl) h0
  obtain ⟨a1, rfl, rfl, rfl, w1⟩ := open_int Try.underlying2 (hval 1 2 v1 rfl rfl) h1
  clear hA0 hval0
  refine (walk a0 a1 W w0 w1).mono fun e W' ⟨he, bel⟩ => ?_
  subst he
  exact ⟨_, rfl, _, _, _, [], _, [], hW', trodAll_mk1 (shut_bool Try.underlying4 _), (trodAll_cons_mk (shut_int Try.underlying2 w0) (trodAll_cons_mk (shut_int Try.underlying2 w1) trodAll_mk0)), rfl, bel.frame _, fun h => by cases h⟩

theorem over : Rows.fnExactRingPlacesRow.holds Try.pinned (OpenSpec.ofChange Rows.fnExactRingPlacesSpec) :=
  OpenClaim.holds_of_wide 11 Try.f11 rfl rfl rfl rfl rfl rfl rfl ⟨rfl, rfl, rfl, rfl, rfl⟩ rfl rfl rfl rfl rfl (by kernel_rfl) Try.func11 (by kernel_rfl)
    (of_decide_eq_true (by kernel_rfl)) (by unfold Func.isWrapper; first | (rw [if_pos (by decide +kernel)]; kernel_rfl) | (rw [if_neg (by decide +kernel)]; exact ⟨rfl, rfl⟩))
    (fun os started H enc _ => lifted os started H enc)

theorem proved : Rows.FnExactRingPlacesSaid := over
#print axioms proved
end Go.Proofs.Ythnifmgjgdmmoab.ringPlaces
