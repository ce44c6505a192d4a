/- The law on TaperOf answers true at every kind and every count. No condition. -/
import Derived.Test.YtjmgohlepglkoaaRows
import Derived.Test.YtjmgohlepglkoaaSlc
import Derived.Test.YtjmgohlepglkoaaSmall
import Derived.Test.YtjmgohlepglkoaaListI
import Derived.Test.YtjmgohlepglkoaaMarks
import Derived.Test.YtjmgohlepglkoaaFloats
import Derived.Test.YtjmgohlepglkoaaRound
import Derived.Test.YtjmgohlepglkoaaValues
import Derived.Test.YtjmgohlepglkoaaConv
import Derived.Test.YtjmgohlepglkoaaFWalk
import Derived.Test.YtjmgohlepglkoaaFinWalk
import Derived.Test.YtjmgohlepglkoaaFloat2
import Derived.Test.YtjmgohlepglkoaaFloat3
import Derived.Test.YtjmgohlepglkoaaPhase
import Derived.Test.YtjmgohlepglkoaaSine
import Derived.Test.YtjmgohlepglkoaaPhasor
import Derived.Test.YtjmgohlepglkoaaListC
import Derived.Test.YtjmgohlepglkoaaSteerNum
import Derived.Test.YtjmgohlepglkoaaRingNum
import Derived.Test.YtjmgohlepglkoaaTaperNum
import Derived.Test.YtjmgohlepglkoaaListF
import Derived.Test.YtjmgohlepglkoaaHeldF
import Derived.Test.YtjmgohlepglkoaaTaper
import Derived.Test.YtjmgohlepglkoaaTaper2
import Derived.Test.YtjmgohlepglkoaaTaper3
import Derived.WalkKit
import Derived.ProofKit
import Derived.OpenShut
import Derived.ShutString
import Derived.ChangeOld
import Derived.Below
import Derived.Lib.Hide
import Derived.BigQuiet
import Derived.Deep.QuietTactic
import Derived.WalkLawsBesides
import Derived.Outline
import Derived.Deep.LoopGhost
namespace Go.Proofs.Ytjmgohlepglkoaa.taperOf
open Go.ChangeShapes Go.WideShapes Go.ChangeAt Go.RowKit
open Go.ChangeMaps (open_string shut_string)
set_option linter.unusedVariables false
theorem own : ownKnob Try.prog.godebug = none := by kernel_rfl
theorem laidOut : laidOutB Try.prog = true := by kernel_rfl
open Go Ieee Go.RowKit
open Go.Proofs.Ytjmgohlepglkoaa.slc Go.Proofs.Ytjmgohlepglkoaa.small Go.Proofs.Ytjmgohlepglkoaa.marks Go.Proofs.Ytjmgohlepglkoaa.listF Go.Proofs.Ytjmgohlepglkoaa.heldF Go.Proofs.Ytjmgohlepglkoaa.taperNum Go.Proofs.Ytjmgohlepglkoaa.taper Go.Proofs.Ytjmgohlepglkoaa.taper2 Go.Proofs.Ytjmgohlepglkoaa.taper3

/-- The numbers of a taper. -/
def tpF (kind : Int) (n : Nat) (k : Nat) : Nat :=
  if kind = 0 then 1065353216 else if kind = 1 then ttri (tm n k) ((n : Int) + 1) else if kind = 2 then tcos ((k : Int) + 1) ((n : Int) + 1) else tbin (wy ((n : Int) - 1) k) (wy ((n : Int) - 1) ((n - 1) / 2))
def tpOk (kind c : Int) : Prop := (0 ≤ kind ∧ kind ≤ 3) ∧ 1 ≤ c ∧ c ≤ 16
instance (kind c : Int) : Decidable (tpOk kind c) := by unfold tpOk; exact inferInstance
def tpN (kind c : Int) : Nat := if tpOk kind c then c.toNat else 0
theorem tpN_le (kind c : Int) : tpN kind c ≤ 16 := by
  unfold tpN
  by_cases h : tpOk kind c
  · rw [if_pos h]; obtain ⟨_, _, h2⟩ := h; omega
  · rw [if_neg h]; omega

set_option maxRecDepth 100000 in
theorem spec_no (kind c : Int) (w : World) (h : ¬ tpOk kind c) :
    Calls Try.prog 13 #[.int .i64 kind, .int .i64 c] w fun e w' => e = .returned (.tuple #[.slice none 0 0, .bool false]) ∧ w = w' := by
  unfold tpOk at h
  by_cases hk : 0 ≤ kind ∧ kind ≤ 3
  · have hc : c < 1 ∨ 16 < c := by omega
    clear h
    go_enter Try.func13, Try.ntmps13
    go_wp2_with fail
    refine (in_yes _ _ _ _ hk.1 hk.2).mono ?_
    rintro e w' ⟨rfl, rfl⟩
    go_wp2_with fail
    refine (in_no _ _ _ _ hc).mono ?_
    rintro e w' ⟨rfl, rfl⟩
    go_wp2_with fail
    go_ret2
    exact ⟨rfl, rfl⟩
  · have hk' : kind < 0 ∨ 3 < kind := by omega
    clear h hk
    go_enter Try.func13, Try.ntmps13
    go_wp2_with fail
    refine (in_no _ _ _ _ hk').mono ?_
    rintro e w' ⟨rfl, rfl⟩
    go_wp2_with fail
    go_ret2
    exact ⟨rfl, rfl⟩
set_option maxRecDepth 100000 in
theorem rule_no (kind : Int) (w : World) (h : kind < 0 ∨ 3 < kind) : Calls Try.prog 55 #[.int .i64 kind] w fun e w' => e = .returned (.tuple #[.nilFunc, .bool false]) ∧ w = w' := by
  have h0 : (kind == 0) = false := by simp; omega
  have h1 : (kind == 1) = false := by simp; omega
  have h2 : (kind == 2) = false := by simp; omega
  have h3 : (kind == 3) = false := by simp; omega
  clear h
  go_enter Try.func55, Try.ntmps55
  go_wp2
  go_ret2
  exact ⟨rfl, rfl⟩
set_option maxRecDepth 100000 in
set_option maxHeartbeats 800000 in
theorem impl_no (kind c : Int) (w : World) (h : ¬ tpOk kind c) :
    Calls Try.prog 14 #[.int .i64 kind, .int .i64 c] w fun e w' => e = .returned (.tuple #[.slice none 0 0, .bool false]) ∧ w = w' := by
  unfold tpOk at h
  by_cases hk : 0 ≤ kind ∧ kind ≤ 3
  · have hc : c < 1 ∨ 16 < c := by omega
    obtain rfl | rfl | rfl | rfl : kind = 0 ∨ kind = 1 ∨ kind = 2 ∨ kind = 3 := by omega
    all_goals
      clear h hk
      go_enter Try.func14, Try.ntmps14
      go_wp2_with fail
      first
        | with_reducible refine (rule_even _).mono ?_
        | with_reducible refine (rule_tri _).mono ?_
        | with_reducible refine (rule_cos _).mono ?_
        | with_reducible refine (rule_bin _).mono ?_
      rintro e w' ⟨rfl, rfl⟩
      go_wp2_with fail
      refine (count_no _ _ hc).mono ?_
      rintro e w' ⟨rfl, rfl⟩
      go_wp2_with fail
      go_ret2
      exact ⟨rfl, rfl⟩
  · have hk' : kind < 0 ∨ 3 < kind := by omega
    clear h hk
    go_enter Try.func14, Try.ntmps14
    go_wp2_with fail
    refine (rule_no _ _ hk').mono ?_
    rintro e w' ⟨rfl, rfl⟩
    go_wp2_with fail
    go_ret2
    exact ⟨rfl, rfl⟩

set_option maxRecDepth 100000 in
theorem spec_c (kind c : Int) : GivesF 13 #[.int .i64 kind, .int .i64 c] (tpF kind (tpN kind c)) (tpN kind c) (decide (tpOk kind c)) := by
  intro w
  by_cases h : tpOk kind c
  · have hn : tpN kind c = c.toNat := by unfold tpN; rw [if_pos h]
    rw [hn, decide_eq_true h]
    obtain ⟨hk, c1, c2⟩ := h
    obtain ⟨n, rfl⟩ : ∃ n : Nat, c = (n : Int) := ⟨c.toNat, by omega⟩
    rw [show ((n : Nat) : Int).toNat = n by omega]
    obtain rfl | rfl | rfl | rfl : kind = 0 ∨ kind = 1 ∨ kind = 2 ∨ kind = 3 := by omega
    · exact sp_even n (by omega) (by omega) w
    · exact sp_tri n (by omega) (by omega) w
    · exact sp_cos n (by omega) (by omega) w
    · exact sp_bin n (by omega) (by omega) w
  · have hn : tpN kind c = 0 := by unfold tpN; rw [if_neg h]
    rw [hn, decide_eq_false h]
    refine (spec_no kind c w h).mono ?_
    rintro e w' ⟨rfl, rfl⟩
    exact ⟨none, 0, rfl, World.ownsRow_nil _ _ _ _, World.grownBy.refl _ _⟩
set_option maxRecDepth 100000 in
theorem impl_c (kind c : Int) : GivesF 14 #[.int .i64 kind, .int .i64 c] (tpF kind (tpN kind c)) (tpN kind c) (decide (tpOk kind c)) := by
  intro w
  by_cases h : tpOk kind c
  · have hn : tpN kind c = c.toNat := by unfold tpN; rw [if_pos h]
    rw [hn, decide_eq_true h]
    obtain ⟨hk, c1, c2⟩ := h
    obtain ⟨n, rfl⟩ : ∃ n : Nat, c = (n : Int) := ⟨c.toNat, by omega⟩
    rw [show ((n : Nat) : Int).toNat = n by omega]
    obtain rfl | rfl | rfl | rfl : kind = 0 ∨ kind = 1 ∨ kind = 2 ∨ kind = 3 := by omega
    · exact im_even n (by omega) (by omega) w
    · exact im_tri n (by omega) (by omega) w
    · exact im_cos n (by omega) (by omega) w
    · exact im_bin n (by omega) (by omega) w
  · have hn : tpN kind c = 0 := by unfold tpN; rw [if_neg h]
    rw [hn, decide_eq_false h]
    refine (impl_no kind c w h).mono ?_
    rintro e w' ⟨rfl, rfl⟩
    exact ⟨none, 0, rfl, World.ownsRow_nil _ _ _ _, World.grownBy.refl _ _⟩

set_option maxHeartbeats 400000 in
set_option maxRecDepth 100000 in
theorem law (a b : Int) (x : Nat → Nat) (n : Nat) (ok : Bool) (w : World) (hl : n ≤ 64) (hs : GivesF 13 #[.int .i64 a, .int .i64 b] x n ok) (hi : GivesF 14 #[.int .i64 a, .int .i64 b] x n ok) :
    Calls Try.prog 3 #[.int .i64 a, .int .i64 b] w fun e w' => e = .returned (.bool true) ∧ Below w.heap.size w w' := by
  go_enter Try.func3, Try.ntmps3
  go_wp2_with fail
  refine (hs _).mono ?_
  rintro e w1 ⟨A1, c1, rfl, ho1, hg1⟩
  go_wp2_with fail
  refine (hi _).mono ?_
  rintro e w2 ⟨A2, c2, rfl, ho2, hg2⟩
  have R1 := Rd.of_lst ho1 (Nat.mul_one _).symm
  have R1b := (R1.kept0 hg2 (Nat.le_refl _)).mono hg2.size
  have R2 := Rd.of_lst ho2 (Nat.mul_one _).symm
  go_wp2_with fail
  refine (eqF_true _ _ _ _ _ _ _ _ (by omega) (Nat.le_refl _) R2 R1b).mono ?_
  rintro e w3 ⟨rfl, hg3⟩
  have ho2c := own_kept0 ho2 hg3
  have R1c := R1.kept0 (hg2.trans hg3) (Nat.le_refl _)
  have hsz3 := Nat.le_trans hg2.size hg3.size
  go_wp2_with fail
  refine (markF1 _ _ _ _ _ _ _ (by omega) ho2c).mono ?_
  rintro e w4 ⟨rfl, ho4, hg4⟩
  have R1d := R1c.kept hg4 hsz3 (far_of ho2 (Nat.le_refl _))
  have hsz4 := Nat.le_trans hsz3 hg4.size
  have R4 := Rd.of_lst ho4 (Nat.mul_one _).symm
  go_wp2_with fail
  refine (heldF1 _ _ _ _ _ (by omega) R4).mono ?_
  rintro e w' ⟨rfl, rfl⟩
  go_wp2_with fail
  refine (hi _).mono ?_
  rintro e w5 ⟨A5, c5, rfl, ho5, hg5⟩
  have R5 := Rd.of_lst ho5 (Nat.mul_one _).symm
  have R1e := (R1d.kept0 hg5 hsz4).mono (Nat.le_trans hsz4 hg5.size)
  go_wp2_with fail
  refine (eqF_true _ _ _ _ _ _ _ _ (by omega) (Nat.le_refl _) R5 R1e).mono ?_
  rintro e w6 ⟨rfl, hg6⟩
  have R4f := R4.kept0 (hg5.trans hg6) (Nat.le_refl _)
  go_wp2_with fail
  refine (heldF1 _ _ _ _ _ (by omega) R4f).mono ?_
  rintro e w' ⟨rfl, rfl⟩
  go_wp2_with fail
  go_ret
  exact ⟨rfl, gb_below ((gb_new ((hg1.trans hg2).trans hg3) hg4 (base_of ho2 hg1.size)).trans (hg5.trans hg6))⟩

theorem walk (a0 a1 : Int) (w : World) (w0 : (Lit.int .i64 a0).wf = true) (w1 : (Lit.int .i64 a1).wf = true) :
    Calls Try.prog 3 #[.int .i64 a0, .int .i64 a1] w fun e w' => e = .returned (.bool true) ∧ Below w.heap.size w w' :=
  law a0 a1 _ _ _ w (by have := tpN_le a0 a1; omega) (spec_c a0 a1) (impl_c a0 a1)

set_option maxRecDepth 100000 in
theorem lifted (os : Os) (started : os.Started) (H : Type) (enc : TypeId × Value → H) :
    ReturnsInHanded {} Try.checked os 3 .any (Rows.fnExactTaperOfSpec.pre6 enc Try.prog Try.f3 Rows.fnExactTaperOfRow.domain false) (Rows.fnExactTaperOfSpec.post enc Try.prog Try.f3 false true false false) := by
  refine returnsInHanded_of_change (C := Try.checked) own started (by kernel_rfl) Try.func3
    (ChangeSpec.witness6 (enc := enc) (C := Try.checked) false ⟨#[], #[.int .i64 0, .int .i64 0], []⟩ 8 (by kernel_rfl) (by kernel_rfl) (by kernel_rfl) (by kernel_rfl)) ?_
  intro W base args ds gs before hval0 hW hcnd _
  have hval : ∀ (j : Nat) t v, Try.f3.params[j]? = some t → args[j]? = some v → Value.okWide Try.prog W .any base t v := hval0
  have hW' := hW
  obtain ⟨p, q, hA0, hV, rfl, hfz, hnd⟩ := hW
  have hA : DataW.TrodAll enc Try.prog W 0 (fun _ => true) true Try.f3.params.toList args.toList ds p := hA0
  rw [Try.params3] at hA hval
  obtain ⟨v0, vs0, d0, ds0, p0, q0, hargs, rfl, rfl, h0, r0⟩ := trodAll_cons hA
  obtain ⟨v1, vs1, d1, ds1, p1, q1, rfl, rfl, rfl, h1, r1⟩ := trodAll_cons r0
  obtain ⟨rfl, rfl, rfl⟩ := trodAll_nil r1
  obtain rfl : args = #[v0, v1] := by cases args; simp_all
  obtain ⟨rfl, rfl⟩ := trodVars_none hV
  obtain ⟨a0, rfl, rfl, rfl, w0⟩ := open_int Try.underlying2 (hval 0 2 v0 rfl rfl) h0
  obtain ⟨a1, rfl, rfl, rfl, w1⟩ := open_int Try.underlying2 (hval 1 2 v1 rfl rfl) h1
  clear hA0 hval0
  refine (walk a0 a1 W w0 w1).mono fun e W' ⟨he, bel⟩ => ?_
  subst he
  exact ⟨_, rfl, _, _, _, [], _, [], hW', trodAll_mk1 (shut_bool Try.underlying4 _), (trodAll_cons_mk (shut_int Try.underlying2 w0) (trodAll_cons_mk (shut_int Try.underlying2 w1) trodAll_mk0)), rfl, bel.frame _, fun h => by cases h⟩

theorem over : Rows.fnExactTaperOfRow.holds Try.pinned (OpenSpec.ofChange Rows.fnExactTaperOfSpec) :=
  OpenClaim.holds_of_wide 3 Try.f3 rfl rfl rfl rfl rfl rfl rfl ⟨rfl, rfl, rfl, rfl, rfl⟩ rfl rfl rfl rfl rfl (by kernel_rfl) Try.func3 (by kernel_rfl)
    (of_decide_eq_true (by kernel_rfl)) (by unfold Func.isWrapper; first | (rw [if_pos (by decide +kernel)]; kernel_rfl) | (rw [if_neg (by decide +kernel)]; exact ⟨rfl, rfl⟩))
    (fun os started H enc _ => lifted os started H enc)

theorem proved : Rows.FnExactTaperOfSaid := over
#print axioms proved
end Go.Proofs.Ytjmgohlepglkoaa.taperOf
