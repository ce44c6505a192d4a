/- The law on TourTicks answers true at every list of directions and every order. No condition. -/
import Derived.Test.YtkjmlpdbnnmlhaaRows
import Derived.Test.YtkjmlpdbnnmlhaaSlc
import Derived.Test.YtkjmlpdbnnmlhaaSmall
import Derived.Test.YtkjmlpdbnnmlhaaOpens
import Derived.Test.YtkjmlpdbnnmlhaaListI
import Derived.Test.YtkjmlpdbnnmlhaaPlanNum
import Derived.Test.YtkjmlpdbnnmlhaaSwT
import Derived.Test.YtkjmlpdbnnmlhaaBeamsOk
import Derived.Test.YtkjmlpdbnnmlhaaListDir
import Derived.Test.YtkjmlpdbnnmlhaaDirsOk
import Derived.Test.YtkjmlpdbnnmlhaaSortO
import Derived.Test.YtkjmlpdbnnmlhaaSeqV
import Derived.Test.YtkjmlpdbnnmlhaaOrdC
import Derived.Test.YtkjmlpdbnnmlhaaTourC
import Derived.Test.YtkjmlpdbnnmlhaaTourS
import Derived.Test.YtkjmlpdbnnmlhaaTourQ
import Derived.Test.YtkjmlpdbnnmlhaaPlanTop
import Derived.WalkKit
import Derived.ProofKit
import Derived.OpenShut
import Derived.ShutString
import Derived.ChangeOld
import Derived.Below
import Derived.Lib.Hide
import Derived.BigQuiet
import Derived.Deep.QuietTactic
import Derived.WalkLawsBesides
import Derived.Outline
import Derived.Deep.LoopGhost
namespace Go.Proofs.Ytkjmlpdbnnmlhaa.tourTicks
open Go.ChangeShapes Go.WideShapes Go.ChangeAt Go.RowKit
open Go.ChangeMaps (open_string shut_string)
set_option linter.unusedVariables false
theorem own : ownKnob Try.prog.godebug = none := by kernel_rfl
theorem laidOut : laidOutB Try.prog = true := by kernel_rfl
open Go Go.RowKit
open Go.Proofs.Ytkjmlpdbnnmlhaa.slc Go.Proofs.Ytkjmlpdbnnmlhaa.small Go.Proofs.Ytkjmlpdbnnmlhaa.opens Go.Proofs.Ytkjmlpdbnnmlhaa.listI Go.Proofs.Ytkjmlpdbnnmlhaa.listDir Go.Proofs.Ytkjmlpdbnnmlhaa.planTop Go.Proofs.Ytkjmlpdbnnmlhaa.tourC Go.Proofs.Ytkjmlpdbnnmlhaa.tourQ
set_option maxHeartbeats 4000000 in
set_option maxRecDepth 100000 in
theorem law (A0 : Option Addr) (c0 : Nat) (z0 : List (Int × Int)) (A1 : Option Addr) (c1 : Nat) (z1 : List Int) (w : World) (hm0 : z0.length ≤ 9223372036854775807) (hr0 : Rd w w.heap.size A0 (z0.length * 2) (pcell z0)) (hm1 : z1.length ≤ 9223372036854775807) (hr1 : Rd w w.heap.size A1 z1.length (cls z1)) :
    Calls Try.prog 12 #[.slice A0 z0.length c0, .slice A1 z1.length c1] w fun e w' => e = .returned (.bool true) ∧ Below w.heap.size w w' := by
  by_cases hl1 : z1.length ≤ 1048576
  · have hz1 := hl1
    by_cases hl0 : z0.length ≤ 1048576
    · have hz0 := hl0
      go_enter Try.func12, Try.ntmps12
      go_wp2_with fail
      refine (szD _ _ _ _ hl0).mono ?_
      rintro e w' ⟨rfl, rfl⟩
      go_wp2_with fail
      refine (toD _ _ _ _ _ (by omega) (pcell_ints z0 (z0.length * 2)) hr0).mono ?_
      rintro e w1 ⟨B1, d1, rfl, ho1, hg1⟩
      have R1 := Rd.of_lst ho1 rfl
      have y1 := hg1.size
      go_wp2_with fail
      refine (toI _ _ _ _ _ (by omega) (cls_ints z1) ((hr1.kept0 hg1 (Nat.le_refl _)).mono hg1.size)).mono ?_
      rintro e w2 ⟨B2, d2, rfl, ho2, hg2⟩
      have R2 := Rd.of_lst ho2 (Nat.mul_one _).symm
      have y2 := hg2.size
      go_wp2_with fail
      refine (tour_spec _ _ _ _ _ _ _ _ hm0 hm1 ((R1.kept0 hg2 (Nat.le_refl _)).mono hg2.size) R2 (Nat.le_refl _)).mono ?_
      rintro e w3 ⟨rfl, hg3⟩
      have y3 := hg3.size
      go_wp2_with fail
      refine (toD _ _ _ _ _ (by omega) (pcell_ints z0 (z0.length * 2)) ((hr0.kept0 ((hg1.trans hg2).trans hg3) (Nat.le_refl _)).mono ((hg1.trans hg2).trans hg3).size)).mono ?_
      rintro e w4 ⟨B4, d4, rfl, ho4, hg4⟩
      have R4 := Rd.of_lst ho4 rfl
      have y4 := hg4.size
      go_wp2_with fail
      refine (toI _ _ _ _ _ (by omega) (cls_ints z1) ((hr1.kept0 (((hg1.trans hg2).trans hg3).trans hg4) (Nat.le_refl _)).mono (((hg1.trans hg2).trans hg3).trans hg4).size)).mono ?_
      rintro e w5 ⟨B5, d5, rfl, ho5, hg5⟩
      have R5 := Rd.of_lst ho5 (Nat.mul_one _).symm
      have y5 := hg5.size
      go_wp2_with fail
      refine (tour_impl _ _ _ _ _ _ _ _ hm0 hm1 ((R4.kept0 hg5 (Nat.le_refl _)).mono hg5.size) R5 (Nat.le_refl _)).mono ?_
      rintro e w6 ⟨rfl, hg6⟩
      have y6 := hg6.size
      go_wp2_with fail
      refine (toD _ _ _ _ _ (by omega) (pcell_ints z0 (z0.length * 2)) ((hr0.kept0 (((((hg1.trans hg2).trans hg3).trans hg4).trans hg5).trans hg6) (Nat.le_refl _)).mono (((((hg1.trans hg2).trans hg3).trans hg4).trans hg5).trans hg6).size)).mono ?_
      rintro e w7 ⟨B7, d7, rfl, ho7, hg7⟩
      have R7 := Rd.of_lst ho7 rfl
      have y7 := hg7.size
      go_wp2_with fail
      refine (eqD_true _ _ _ _ _ _ _ _ (by omega) (Nat.le_refl _) (pcell_ints z0 (z0.length * 2)) ((R4.kept0 ((hg5.trans hg6).trans hg7) (Nat.le_refl _)).mono ((hg5.trans hg6).trans hg7).size) R7).mono ?_
      rintro e w8 ⟨rfl, hg8⟩
      have y8 := hg8.size
      go_wp2_with fail
      refine (toI _ _ _ _ _ (by omega) (cls_ints z1) ((hr1.kept0 (((((((hg1.trans hg2).trans hg3).trans hg4).trans hg5).trans hg6).trans hg7).trans hg8) (Nat.le_refl _)).mono (((((((hg1.trans hg2).trans hg3).trans hg4).trans hg5).trans hg6).trans hg7).trans hg8).size)).mono ?_
      rintro e w9 ⟨B9, d9, rfl, ho9, hg9⟩
      have R9 := Rd.of_lst ho9 (Nat.mul_one _).symm
      have y9 := hg9.size
      go_wp2_with fail
      refine (eqI_true _ _ _ _ _ _ _ _ (by omega) (cls_ints z1) ((R5.kept0 (((hg6.trans hg7).trans hg8).trans hg9) (Nat.le_refl _)).mono (((hg6.trans hg7).trans hg8).trans hg9).size) R9).mono ?_
      rintro e w10 ⟨rfl, hg10⟩
      have y10 := hg10.size
      go_wp2_with fail
      go_ret
      exact ⟨rfl, gb_below (((((((((hg1.trans hg2).trans hg3).trans hg4).trans hg5).trans hg6).trans hg7).trans hg8).trans hg9).trans hg10)⟩
    · go_enter Try.func12, Try.ntmps12
      go_wp2_with fail
      refine (szD_no _ _ _ _ (by omega) hm0).mono ?_
      rintro e w' ⟨rfl, rfl⟩
      go_wp2_with fail
      go_ret
      exact ⟨rfl, Below.refl _ _⟩
  · go_enter Try.func12, Try.ntmps12
    go_wp2_with fail
    go_ret
    exact ⟨rfl, Below.refl _ _⟩

theorem walk (a0 : Option Addr) (len0 cap0 : Nat) (z0 : List (Int × Int)) (a1 : Option Addr) (len1 cap1 : Nat) (z1 : List Int) (w : World) (l0 : z0.length = len0) (m0 : len0 ≤ maxLen) (w0 : ∀ x ∈ z0, (Lit.int .i64 x.1).wf = true ∧ (Lit.int .i64 x.2).wf = true) (r0 : Rd w w.heap.size a0 (len0 * 2) (pcell z0)) (l1 : z1.length = len1) (m1 : len1 ≤ maxLen) (w1 : ∀ x ∈ z1, (Lit.int .i64 x).wf = true) (r1 : Rd w w.heap.size a1 len1 (fun j => .int .i64 (z1.getD j 0))) :
    Calls Try.prog 12 #[.slice a0 len0 cap0, .slice a1 len1 cap1] w fun e w' => e = .returned (.bool true) ∧ Below w.heap.size w w' := by
  subst l0
  unfold maxLen at m0
  subst l1
  unfold maxLen at m1
  have r1' : Rd w w.heap.size a1 z1.length (cls z1) := r1.congr fun j hj => by rw [cls_at z1 hj]
  exact law a0 cap0 z0 a1 cap1 z1 w (by omega) r0 (by omega) r1'

set_option maxRecDepth 100000 in
theorem lifted (os : Os) (started : os.Started) (H : Type) (enc : TypeId × Value → H) :
    ReturnsInHanded {} Try.checked os 12 .any (Rows.fnExactTourTicksSpec.pre6 enc Try.prog Try.f12 Rows.fnExactTourTicksRow.domain false) (Rows.fnExactTourTicksSpec.post enc Try.prog Try.f12 false true false false) := by
  refine returnsInHanded_of_change (C := Try.checked) own started (by kernel_rfl) Try.func12
    (ChangeSpec.witness6 (enc := enc) (C := Try.checked) false ⟨#[], #[.slice none 0 0, .slice none 0 0], []⟩ 8 (by kernel_rfl) (by kernel_rfl) (by kernel_rfl) (by kernel_rfl)) ?_
  intro W base args ds gs before hval0 hW hcnd _
  have hval : ∀ (j : Nat) t v, Try.f12.params[j]? = some t → args[j]? = some v → Value.okWide Try.prog W .any base t v := hval0
  have hW' := hW
  obtain ⟨p, q, hA0, hV, rfl, hfz, hnd⟩ := hW
  have hA : DataW.TrodAll enc Try.prog W 0 (fun _ => true) true Try.f12.params.toList args.toList ds p := hA0
  rw [Try.params12] at hA hval
  obtain ⟨v0, vs0, d0, ds0, p0, q0, hargs, rfl, rfl, h0, r0⟩ := trodAll_cons hA
  obtain ⟨v1, vs1, d1, ds1, p1, q1, rfl, rfl, rfl, h1, r1⟩ := trodAll_cons r0
  obtain ⟨rfl, rfl, rfl⟩ := trodAll_nil r1
  obtain rfl : args = #[v0, v1] := by cases args; simp_all
  obtain ⟨rfl, rfl⟩ := trodVars_none hV
  obtain ⟨a0, len0, cap0, rfl⟩ := okWide_slice Try.underlying58 (hval 0 58 v0 rfl rfl)
  have k0 := h0
  have lt0 : ∀ x ∈ p0, x.block < W.heap.size := by obtain ⟨m, hm⟩ := k0; exact DataW.trod_lt m _ _ _ hm
  obtain ⟨z0, l0, m0, w0, r0'⟩ := opened_pairs Try.underlying58 Try.underlying30 (by kernel_rfl) rfl rfl (by kernel_rfl) (by kernel_rfl) Try.underlying2 Try.underlying2 k0
  obtain ⟨a1, len1, cap1, rfl⟩ := okWide_slice Try.underlying50 (hval 1 50 v1 rfl rfl)
  have k1 := h1
  have lt1 : ∀ x ∈ p1, x.block < W.heap.size := by obtain ⟨m, hm⟩ := k1; exact DataW.trod_lt m _ _ _ hm
  obtain ⟨z1, l1, m1, w1, r1'⟩ := opened_ints Try.underlying50 Try.underlying2 (by kernel_rfl) k1
  clear hA0 hval0
  refine (walk a0 len0 cap0 z0 a1 len1 cap1 z1 W l0 m0 w0 r0' l1 m1 w1 r1').mono fun e W' ⟨he, bel⟩ => ?_
  subst he
  exact ⟨_, rfl, _, _, _, [], _, [], hW', trodAll_mk1 (shut_bool Try.underlying4 _), (trodAll_cons_mk (Below.trod laidOut (by kernel_rfl) (of_decide_eq_true (by kernel_rfl)) k0 bel lt0) (trodAll_cons_mk (Below.trod laidOut (by kernel_rfl) (of_decide_eq_true (by kernel_rfl)) k1 bel lt1) trodAll_mk0)), rfl, bel.frame _, fun h => by cases h⟩

set_option maxHeartbeats 8000000 in
theorem over : Rows.fnExactTourTicksRow.holds Try.pinned (OpenSpec.ofChange Rows.fnExactTourTicksSpec) :=
  OpenClaim.holds_of_wide 12 Try.f12 rfl rfl rfl rfl rfl rfl rfl ⟨rfl, rfl, rfl, rfl, rfl⟩ rfl rfl rfl rfl rfl (by as_aux_lemma => kernel_rfl) Try.func12 (by as_aux_lemma => kernel_rfl)
    (of_decide_eq_true (by as_aux_lemma => kernel_rfl)) (by unfold Func.isWrapper; first | (rw [if_pos (by decide +kernel)]; kernel_rfl) | (rw [if_neg (by decide +kernel)]; exact ⟨rfl, rfl⟩))
    (fun os started H enc _ => lifted os started H enc)

theorem proved : Rows.FnExactTourTicksSaid := over
#print axioms proved
end Go.Proofs.Ytkjmlpdbnnmlhaa.tourTicks
