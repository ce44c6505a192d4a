/- The law on LoadOf answers true at every list of beams. No condition. -/
import Derived.Test.YtkjmlpdbnnmlhaaRows
import Derived.Test.YtkjmlpdbnnmlhaaSlc
import Derived.Test.YtkjmlpdbnnmlhaaSmall
import Derived.Test.YtkjmlpdbnnmlhaaOpens
import Derived.Test.YtkjmlpdbnnmlhaaBeams
import Derived.Test.YtkjmlpdbnnmlhaaListBeam
import Derived.Test.YtkjmlpdbnnmlhaaPlanNum
import Derived.Test.YtkjmlpdbnnmlhaaBeamsOk
import Derived.Test.YtkjmlpdbnnmlhaaLoadNum
import Derived.Test.YtkjmlpdbnnmlhaaLoadC
import Derived.WalkKit
import Derived.ProofKit
import Derived.OpenShut
import Derived.ShutString
import Derived.ChangeOld
import Derived.Below
import Derived.Lib.Hide
import Derived.BigQuiet
import Derived.Deep.QuietTactic
import Derived.WalkLawsBesides
import Derived.Outline
import Derived.Deep.LoopGhost
namespace Go.Proofs.Ytkjmlpdbnnmlhaa.loadOf
open Go.ChangeShapes Go.WideShapes Go.ChangeAt Go.RowKit
open Go.ChangeMaps (open_string shut_string)
set_option linter.unusedVariables false
theorem own : ownKnob Try.prog.godebug = none := by kernel_rfl
theorem laidOut : laidOutB Try.prog = true := by kernel_rfl
open Go Go.RowKit
open Go.Proofs.Ytkjmlpdbnnmlhaa.slc Go.Proofs.Ytkjmlpdbnnmlhaa.small Go.Proofs.Ytkjmlpdbnnmlhaa.opens Go.Proofs.Ytkjmlpdbnnmlhaa.beams Go.Proofs.Ytkjmlpdbnnmlhaa.listBeam Go.Proofs.Ytkjmlpdbnnmlhaa.planNum Go.Proofs.Ytkjmlpdbnnmlhaa.beamsOk Go.Proofs.Ytkjmlpdbnnmlhaa.loadNum Go.Proofs.Ytkjmlpdbnnmlhaa.loadC
set_option maxHeartbeats 4000000 in
set_option maxRecDepth 100000 in
theorem law (A0 : Option Addr) (c0 : Nat) (z0 : List Bm) (w : World) (hm0 : z0.length ≤ 9223372036854775807) (hr0 : Rd w w.heap.size A0 (z0.length * 4) (bcell z0)) :
    Calls Try.prog 5 #[.slice A0 z0.length c0] w fun e w' => e = .returned (.bool true) ∧ Below w.heap.size w w' := by
  by_cases hl0 : z0.length ≤ 1048576
  · have hz0 := hl0
    go_enter Try.func5, Try.ntmps5
    go_wp2_with fail
    refine (szB _ _ _ _ hl0).mono ?_
    rintro e w' ⟨rfl, rfl⟩
    go_wp2_with fail
    refine (toB _ _ _ _ _ (by omega) hr0).mono ?_
    rintro e w1 ⟨B1, d1, rfl, ho1, hg1⟩
    have R1 := Rd.of_lst ho1 rfl
    have y1 := hg1.size
    go_wp2_with fail
    refine (load_spec _ _ _ _ _ hm0 R1 (Nat.le_refl _)).mono ?_
    rintro e w2 ⟨rfl, hg2⟩
    have y2 := hg2.size
    go_wp2_with fail
    refine (toB _ _ _ _ _ (by omega) ((hr0.kept0 (hg1.trans hg2) (Nat.le_refl _)).mono (hg1.trans hg2).size)).mono ?_
    rintro e w3 ⟨B3, d3, rfl, ho3, hg3⟩
    have R3 := Rd.of_lst ho3 rfl
    have y3 := hg3.size
    go_wp2_with fail
    refine (load_impl _ _ _ _ _ hm0 R3 (Nat.le_refl _)).mono ?_
    rintro e w4 ⟨rfl, hg4⟩
    have y4 := hg4.size
    go_wp2_with fail
    refine (toB _ _ _ _ _ (by omega) ((hr0.kept0 (((hg1.trans hg2).trans hg3).trans hg4) (Nat.le_refl _)).mono (((hg1.trans hg2).trans hg3).trans hg4).size)).mono ?_
    rintro e w5 ⟨B5, d5, rfl, ho5, hg5⟩
    have R5 := Rd.of_lst ho5 rfl
    have y5 := hg5.size
    go_wp2_with fail
    refine (eqB_true _ _ _ _ _ _ _ _ (by omega) (Nat.le_refl _) ((R3.kept0 (hg4.trans hg5) (Nat.le_refl _)).mono (hg4.trans hg5).size) R5).mono ?_
    rintro e w6 ⟨rfl, hg6⟩
    have y6 := hg6.size
    go_wp2_with fail
    go_ret
    exact ⟨rfl, gb_below (((((hg1.trans hg2).trans hg3).trans hg4).trans hg5).trans hg6)⟩
  · go_enter Try.func5, Try.ntmps5
    go_wp2_with fail
    refine (szB_no _ _ _ _ (by omega) hm0).mono ?_
    rintro e w' ⟨rfl, rfl⟩
    go_wp2_with fail
    go_ret
    exact ⟨rfl, Below.refl _ _⟩

theorem walk (a0 : Option Addr) (len0 cap0 : Nat) (z0 : List Bm) (w : World) (l0 : z0.length = len0) (m0 : len0 ≤ maxLen) (w0 : ∀ x ∈ z0, BWf x) (r0 : Rd w w.heap.size a0 (len0 * 4) (bcell z0)) :
    Calls Try.prog 5 #[.slice a0 len0 cap0] w fun e w' => e = .returned (.bool true) ∧ Below w.heap.size w w' := by
  subst l0
  unfold maxLen at m0
  exact law a0 cap0 z0 w (by omega) r0

set_option maxRecDepth 100000 in
theorem lifted (os : Os) (started : os.Started) (H : Type) (enc : TypeId × Value → H) :
    ReturnsInHanded {} Try.checked os 5 .any (Rows.fnExactLoadOfSpec.pre6 enc Try.prog Try.f5 Rows.fnExactLoadOfRow.domain false) (Rows.fnExactLoadOfSpec.post enc Try.prog Try.f5 false true false false) := by
  refine returnsInHanded_of_change (C := Try.checked) own started (by kernel_rfl) Try.func5
    (ChangeSpec.witness6 (enc := enc) (C := Try.checked) false ⟨#[], #[.slice none 0 0], []⟩ 8 (by kernel_rfl) (by kernel_rfl) (by kernel_rfl) (by kernel_rfl)) ?_
  intro W base args ds gs before hval0 hW hcnd _
  have hval : ∀ (j : Nat) t v, Try.f5.params[j]? = some t → args[j]? = some v → Value.okWide Try.prog W .any base t v := hval0
  have hW' := hW
  obtain ⟨p, q, hA0, hV, rfl, hfz, hnd⟩ := hW
  have hA : DataW.TrodAll enc Try.prog W 0 (fun _ => true) true Try.f5.params.toList args.toList ds p := hA0
  rw [Try.params5] at hA hval
  obtain ⟨v0, vs0, d0, ds0, p0, q0, hargs, rfl, rfl, h0, r0⟩ := trodAll_cons hA
  obtain ⟨rfl, rfl, rfl⟩ := trodAll_nil r0
  obtain rfl : args = #[v0] := by cases args; simp_all
  obtain ⟨rfl, rfl⟩ := trodVars_none hV
  obtain ⟨a0, len0, cap0, rfl⟩ := okWide_slice Try.underlying22 (hval 0 22 v0 rfl rfl)
  have k0 := h0
  have lt0 : ∀ x ∈ p0, x.block < W.heap.size := by obtain ⟨m, hm⟩ := k0; exact DataW.trod_lt m _ _ _ hm
  obtain ⟨z0, l0, m0, w0, r0'⟩ := opened_beams Try.underlying22 Try.underlying81 (by kernel_rfl) rfl rfl rfl (by kernel_rfl) (by kernel_rfl) (by kernel_rfl) Try.underlying30 rfl rfl (by kernel_rfl) (by kernel_rfl) Try.underlying2 Try.underlying2 Try.underlying2 Try.underlying2 k0
  clear hA0 hval0
  refine (walk a0 len0 cap0 z0 W l0 m0 w0 r0').mono fun e W' ⟨he, bel⟩ => ?_
  subst he
  exact ⟨_, rfl, _, _, _, [], _, [], hW', trodAll_mk1 (shut_bool Try.underlying4 _), (trodAll_cons_mk (Below.trod laidOut (by kernel_rfl) (of_decide_eq_true (by kernel_rfl)) k0 bel lt0) trodAll_mk0), rfl, bel.frame _, fun h => by cases h⟩

set_option maxHeartbeats 8000000 in
theorem over : Rows.fnExactLoadOfRow.holds Try.pinned (OpenSpec.ofChange Rows.fnExactLoadOfSpec) :=
  OpenClaim.holds_of_wide 5 Try.f5 rfl rfl rfl rfl rfl rfl rfl ⟨rfl, rfl, rfl, rfl, rfl⟩ rfl rfl rfl rfl rfl (by as_aux_lemma => kernel_rfl) Try.func5 (by as_aux_lemma => kernel_rfl)
    (of_decide_eq_true (by as_aux_lemma => kernel_rfl)) (by unfold Func.isWrapper; first | (rw [if_pos (by decide +kernel)]; kernel_rfl) | (rw [if_neg (by decide +kernel)]; exact ⟨rfl, rfl⟩))
    (fun os started H enc _ => lifted os started H enc)

theorem proved : Rows.FnExactLoadOfSaid := over
#print axioms proved
end Go.Proofs.Ytkjmlpdbnnmlhaa.loadOf
