/- The law on ShiftPlaces answers true at all arguments. No condition. -/
import Derived.Test.YtfenpbnoikgfnabRows
import Derived.Test.YtfenpbnoikgfnabSlc
import Derived.Test.YtfenpbnoikgfnabSmall
import Derived.Test.YtfenpbnoikgfnabOpens
import Derived.Test.YtfenpbnoikgfnabPlaces
import Derived.Test.YtfenpbnoikgfnabPlaceSet
import Derived.Test.YtfenpbnoikgfnabListP
import Derived.Test.YtfenpbnoikgfnabGrid
import Derived.Test.YtfenpbnoikgfnabShift
import Derived.WalkKit
import Derived.ProofKit
import Derived.OpenShut
import Derived.ShutString
import Derived.ChangeOld
import Derived.Below
import Derived.Lib.Hide
import Derived.BigQuiet
import Derived.Deep.QuietTactic
import Derived.WalkLawsBesides
import Derived.Outline
import Derived.Deep.LoopGhost
namespace Go.Proofs.Ytfenpbnoikgfnab.shiftPlaces
open Go.ChangeShapes Go.WideShapes Go.ChangeAt Go.RowKit
open Go.ChangeMaps (open_string shut_string)
set_option linter.unusedVariables false
theorem own : ownKnob Try.prog.godebug = none := by kernel_rfl
theorem laidOut : laidOutB Try.prog = true := by kernel_rfl
open Go Go.RowKit
open Go.Proofs.Ytfenpbnoikgfnab.slc Go.Proofs.Ytfenpbnoikgfnab.small Go.Proofs.Ytfenpbnoikgfnab.opens Go.Proofs.Ytfenpbnoikgfnab.places Go.Proofs.Ytfenpbnoikgfnab.listP Go.Proofs.Ytfenpbnoikgfnab.shift

set_option maxHeartbeats 800000 in
set_option maxRecDepth 100000 in
theorem law (A : Option Addr) (c : Nat) (ps : List (Int × Int)) (dx dy : Int) (xs : List (Int × Int)) (ok : Bool) (w : World) (hm : ps.length ≤ 9223372036854775807) (hl : xs.length ≤ 65536) (hr : Rd w w.heap.size A (ps.length * 2) (pcell ps))
    (hs : ∀ (A : Option Addr) (c B : Nat) (w : World), Rd w B A (ps.length * 2) (pcell ps) → B ≤ w.heap.size → Calls Try.prog 31 #[.slice A ps.length c, .int .i64 dx, .int .i64 dy] w fun e w' => ∃ A' c', e = .returned (.tuple #[.slice A' xs.length c', .bool ok]) ∧ w'.ownsRow w.heap.size 47 2 (.slice A' xs.length c') xs.length (lst (pcell xs) (xs.length * 2)) ∧ w.grownBy w' none)
    (hi : ∀ (A : Option Addr) (c B : Nat) (w : World), Rd w B A (ps.length * 2) (pcell ps) → B ≤ w.heap.size → Calls Try.prog 32 #[.slice A ps.length c, .int .i64 dx, .int .i64 dy] w fun e w' => ∃ A' c', e = .returned (.tuple #[.slice A' xs.length c', .bool ok]) ∧ w'.ownsRow w.heap.size 47 2 (.slice A' xs.length c') xs.length (lst (pcell xs) (xs.length * 2)) ∧ w.grownBy w' none) :
    Calls Try.prog 8 #[.slice A ps.length c, .int .i64 dx, .int .i64 dy] w fun e w' => e = .returned (.bool true) ∧ Below w.heap.size w w' := by
  have hp := pcell_ints ps (ps.length * 2)
  have hx := pcell_ints xs (xs.length * 2)
  by_cases hlen : ps.length ≤ 1048576
  · go_enter Try.func8, Try.ntmps8
    go_wp2_with fail
    refine (szP _ _ _ _ hlen).mono ?_
    rintro e w' ⟨rfl, rfl⟩
    go_wp2_with fail
    refine (toP _ _ _ _ _ hlen hp hr).mono ?_
    rintro e w1 ⟨A1, c1, rfl, ho1, hg1⟩
    have R1 := Rd.of_lst ho1 rfl
    go_wp2_with fail
    refine (hs _ _ _ _ R1 (Nat.le_refl _)).mono ?_
    rintro e w2 ⟨A2, c2, rfl, ho2, hg2⟩
    have S2 := Rd.of_lst ho2 rfl
    have g2 := hg1.trans hg2
    go_wp2_with fail
    refine (toP _ _ _ _ _ hlen hp ((hr.kept0 g2 (Nat.le_refl _)).mono g2.size)).mono ?_
    rintro e w3 ⟨A3, c3, rfl, ho3, hg3⟩
    have R3 := Rd.of_lst ho3 rfl
    have g3 := g2.trans hg3
    go_wp2_with fail
    refine (hi _ _ _ _ R3 (Nat.le_refl _)).mono ?_
    rintro e w4 ⟨A4, c4, rfl, ho4, hg4⟩
    have R4 := Rd.of_lst ho4 rfl
    have g4 := g3.trans hg4
    have S4 := (S2.kept0 (hg3.trans hg4) (Nat.le_refl _)).mono (hg3.trans hg4).size
    go_wp2_with fail
    refine (eqP_true _ _ _ _ _ _ _ _ (by omega) (Nat.le_refl _) hx R4 S4).mono ?_
    rintro e w5 ⟨rfl, hg5⟩
    have g5 := g4.trans hg5
    go_wp2_with fail
    refine (toP _ _ _ _ _ hlen hp ((hr.kept0 g5 (Nat.le_refl _)).mono g5.size)).mono ?_
    rintro e w6 ⟨A6, c6, rfl, ho6, hg6⟩
    have R6 := Rd.of_lst ho6 rfl
    have h36 := (hg4.trans hg5).trans hg6
    have R36 := (R3.kept0 h36 (Nat.le_refl _)).mono h36.size
    have g6 := g5.trans hg6
    go_wp2_with fail
    refine (eqP_true _ _ _ _ _ _ _ _ (by omega) (Nat.le_refl _) hp R36 R6).mono ?_
    rintro e w7 ⟨rfl, hg7⟩
    have g7 := g6.trans hg7
    have ho37 := own_kept0 ho3 (h36.trans hg7)
    go_wp2_with fail
    refine (markP1 _ _ _ _ _ _ _ (by omega) ho37).mono ?_
    rintro e w8 ⟨rfl, ho8, hg8⟩
    have h47 := (hg5.trans hg6).trans hg7
    have ho47 := own_kept0 ho4 h47
    have b3 := own_base ho3
    have b4 := own_base ho4
    have hsz34 := hg4.size
    have hn34 : (Value.slice A4 xs.length c4).ownBlock ≠ A3.map Addr.block ∨ (Value.slice A4 xs.length c4).ownBlock = none := by
      cases h4 : (Value.slice A4 xs.length c4).ownBlock with
      | none => exact .inr rfl
      | some b =>
        refine .inl fun e => ?_
        rw [own_blk] at h4
        have x1 := (b4 b h4).1
        have x2 := (b3 b e.symm).2
        omega
    have ho48 := ho47.kept hg8 hn34.symm
    have R48 := Rd.of_lst ho48 rfl
    have S7 := S2.kept0 ((hg3.trans hg4).trans h47) (Nat.le_refl _)
    have hsz27 := ((hg3.trans hg4).trans h47).size
    have S8 := S7.kept hg8 hsz27 (far_of ho3 (Nat.le_refl _))
    have hsz28 := Nat.le_trans hsz27 hg8.size
    have g8 := gb_new g7 hg8 (base_of ho3 g2.size)
    go_wp2_with fail
    refine (eqP_true _ _ _ _ _ _ _ _ (by omega) (Nat.le_refl _) hx R48 (S8.mono hsz28)).mono ?_
    rintro e w9 ⟨rfl, hg9⟩
    have g9 := g8.trans hg9
    have ho49 := own_kept0 ho48 hg9
    have S9 := S8.kept0 hg9 hsz28
    have hsz29 := Nat.le_trans hsz28 hg9.size
    go_wp2_with fail
    refine (markP1 _ _ _ _ _ _ _ (by omega) ho49).mono ?_
    rintro e w10 ⟨rfl, ho10, hg10⟩
    have S10 := S9.kept hg10 hsz29 (far_of ho4 (Nat.le_trans hg3.size (Nat.le_refl _)))
    have hsz210 := Nat.le_trans hsz29 hg10.size
    have M10 := Rd.of_lst ho10 rfl
    have g10 := gb_new g9 hg10 (base_of ho4 g3.size)
    go_wp2_with fail
    refine (heldP1 _ _ _ _ _ (by omega) M10).mono ?_
    rintro e w' ⟨rfl, rfl⟩
    have r10 := (hr.kept0 g10 (Nat.le_refl _)).mono g10.size
    go_wp2_with fail
    refine (toP _ _ _ _ _ hlen hp r10).mono ?_
    rintro e w11 ⟨A11, c11, rfl, ho11, hg11⟩
    have R11 := Rd.of_lst ho11 rfl
    go_wp2_with fail
    refine (hi _ _ _ _ R11 (Nat.le_refl _)).mono ?_
    rintro e w12 ⟨A12, c12, rfl, ho12, hg12⟩
    have R12 := Rd.of_lst ho12 rfl
    have S12 := (S10.kept0 (hg11.trans hg12) hsz210).mono (Nat.le_trans hsz210 (hg11.trans hg12).size)
    go_wp2_with fail
    refine (eqP_true _ _ _ _ _ _ _ _ (by omega) (Nat.le_refl _) hx R12 S12).mono ?_
    rintro e w13 ⟨rfl, hg13⟩
    have M13 := M10.kept0 ((hg11.trans hg12).trans hg13) (Nat.le_refl _)
    go_wp2_with fail
    refine (heldP1 _ _ _ _ _ (by omega) M13).mono ?_
    rintro e w' ⟨rfl, rfl⟩
    go_wp2_with fail
    go_ret
    exact ⟨rfl, gb_below (g10.trans ((hg11.trans hg12).trans hg13))⟩
  · go_enter Try.func8, Try.ntmps8
    go_wp2_with fail
    refine (szP_no _ _ _ _ (by omega) hm).mono ?_
    rintro e w' ⟨rfl, rfl⟩
    go_wp2_with fail
    go_ret
    exact ⟨rfl, Below.refl _ _⟩

theorem walk (a0 : Option Addr) (len0 cap0 : Nat) (z0 : List (Int × Int)) (a1 a2 : Int) (w : World) (l0 : z0.length = len0) (m0 : len0 ≤ maxLen) (w0 : ∀ x ∈ z0, (Lit.int .i64 x.1).wf = true ∧ (Lit.int .i64 x.2).wf = true) (r0 : Rd w w.heap.size a0 (len0 * 2) (pcell z0)) (w1 : (Lit.int .i64 a1).wf = true) (w2 : (Lit.int .i64 a2).wf = true) :
    Calls Try.prog 8 #[.slice a0 len0 cap0, .int .i64 a1, .int .i64 a2] w fun e w' => e = .returned (.bool true) ∧ Below w.heap.size w w' := by
  subst l0
  unfold maxLen at m0
  exact law a0 cap0 z0 a1 a2 _ _ w (by omega) (Nat.le_trans (shR_len z0 a1 a2) (by omega)) r0 (fun A c B w hr hB => spec_c A c B z0 a1 a2 w (by omega) hr hB) (fun A c B w hr hB => impl_c A c B z0 a1 a2 w (by omega) hr hB)

set_option maxRecDepth 100000 in
theorem lifted (os : Os) (started : os.Started) (H : Type) (enc : TypeId × Value → H) :
    ReturnsInHanded {} Try.checked os 8 .any (Rows.fnExactShiftPlacesSpec.pre6 enc Try.prog Try.f8 Rows.fnExactShiftPlacesRow.domain false) (Rows.fnExactShiftPlacesSpec.post enc Try.prog Try.f8 false true false false) := by
  refine returnsInHanded_of_change (C := Try.checked) own started (by kernel_rfl) Try.func8
    (ChangeSpec.witness6 (enc := enc) (C := Try.checked) false ⟨#[], #[.slice none 0 0, .int .i64 0, .int .i64 0], []⟩ 8 (by kernel_rfl) (by kernel_rfl) (by kernel_rfl) (by kernel_rfl)) ?_
  intro W base args ds gs before hval0 hW hcnd _
  have hval : ∀ (j : Nat) t v, Try.f8.params[j]? = some t → args[j]? = some v → Value.okWide Try.prog W .any base t v := hval0
  have hW' := hW
  obtain ⟨p, q, hA0, hV, rfl, hfz, hnd⟩ := hW
  have hA : DataW.TrodAll enc Try.prog W 0 (fun _ => true) true Try.f8.params.toList args.toList ds p := hA0
  rw [Try.params8] at hA hval
  obtain ⟨v0, vs0, d0, ds0, p0, q0, hargs, rfl, rfl, h0, r0⟩ := trodAll_cons hA
  obtain ⟨v1, vs1, d1, ds1, p1, q1, rfl, rfl, rfl, h1, r1⟩ := trodAll_cons r0
  obtain ⟨v2, vs2, d2, ds2, p2, q2, rfl, rfl, rfl, h2, r2⟩ := trodAll_cons r1
  obtain ⟨rfl, rfl, rfl⟩ := trodAll_nil r2
  obtain rfl : args = #[v0, v1, v2] := by cases args; simp_all
  obtain ⟨rfl, rfl⟩ := trodVars_none hV
  obtain ⟨a0, len0, cap0, rfl⟩ := okWide_slice Try.underlying22 (hval 0 22 v0 rfl rfl)
  have k0 := h0
  have lt0 : ∀ x ∈ p0, x.block < W.heap.size := by obtain ⟨m, hm⟩ := k0; exact DataW.trod_lt m _ _ _ hm
  obtain ⟨z0, l0, m0, w0, r0'⟩ := opened_pairs Try.underlying22 Try.underlying44 (by kernel_rfl) rfl rfl (by kernel_rfl) (by kernel_rfl) Try.underlying2 Try.underlying2 k0
  obtain ⟨a1, rfl, rfl, rfl, w1⟩ := open_int Try.underlying2 (hval 1 2 v1 rfl rfl) h1
  obtain ⟨a2, rfl, rfl, rfl, w2⟩ := open_int Try.underlying2 (hval 2 2 v2 rfl rfl) h2
  clear hA0 hval0
  refine (walk a0 len0 cap0 z0 a1 a2 W l0 m0 w0 r0' w1 w2).mono fun e W' ⟨he, bel⟩ => ?_
  subst he
  exact ⟨_, rfl, _, _, _, [], _, [], hW', trodAll_mk1 (shut_bool Try.underlying4 _), (trodAll_cons_mk (Below.trod laidOut (by kernel_rfl) (of_decide_eq_true (by kernel_rfl)) k0 bel lt0) (trodAll_cons_mk (shut_int Try.underlying2 w1) (trodAll_cons_mk (shut_int Try.underlying2 w2) trodAll_mk0))), rfl, bel.frame _, fun h => by cases h⟩

theorem over : Rows.fnExactShiftPlacesRow.holds Try.pinned (OpenSpec.ofChange Rows.fnExactShiftPlacesSpec) :=
  OpenClaim.holds_of_wide 8 Try.f8 rfl rfl rfl rfl rfl rfl rfl ⟨rfl, rfl, rfl, rfl, rfl⟩ rfl rfl rfl rfl rfl (by kernel_rfl) Try.func8 (by kernel_rfl)
    (of_decide_eq_true (by kernel_rfl)) (by unfold Func.isWrapper; first | (rw [if_pos (by decide +kernel)]; kernel_rfl) | (rw [if_neg (by decide +kernel)]; exact ⟨rfl, rfl⟩))
    (fun os started H enc _ => lifted os started H enc)

theorem proved : Rows.FnExactShiftPlacesSaid := over
#print axioms proved
end Go.Proofs.Ytfenpbnoikgfnab.shiftPlaces
