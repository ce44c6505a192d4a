/- The law on CountSources answers true at every list of numbers and every ratio. No condition. -/
import Derived.Test.YtpeclgfopincbaaRows
import Derived.Test.YtpeclgfopincbaaSlc
import Derived.Test.YtpeclgfopincbaaSmall
import Derived.Test.YtpeclgfopincbaaFloats
import Derived.Test.YtpeclgfopincbaaRound
import Derived.Test.YtpeclgfopincbaaValues
import Derived.Test.YtpeclgfopincbaaConv
import Derived.Test.YtpeclgfopincbaaFWalk
import Derived.Test.YtpeclgfopincbaaCut
import Derived.Test.YtpeclgfopincbaaListF
import Derived.Test.YtpeclgfopincbaaCount
import Derived.WalkKit
import Derived.ProofKit
import Derived.OpenShut
import Derived.ShutString
import Derived.ChangeOld
import Derived.Below
import Derived.Lib.Hide
import Derived.BigQuiet
import Derived.Deep.QuietTactic
import Derived.WalkLawsBesides
import Derived.Outline
namespace Go.Proofs.Ytpeclgfopincbaa.countSources
open Go.ChangeShapes Go.WideShapes Go.ChangeAt Go.RowKit
open Go.ChangeMaps (open_string shut_string)
set_option linter.unusedVariables false
theorem own : ownKnob Try.prog.godebug = none := by kernel_rfl
theorem laidOut : laidOutB Try.prog = true := by kernel_rfl
open Go Ieee Go.RowKit
open Go.Proofs.Ytpeclgfopincbaa.slc Go.Proofs.Ytpeclgfopincbaa.small Go.Proofs.Ytpeclgfopincbaa.cut Go.Proofs.Ytpeclgfopincbaa.listF Go.Proofs.Ytpeclgfopincbaa.count

set_option maxHeartbeats 400000 in
set_option maxRecDepth 100000 in
theorem law (A : Option Addr) (n c : Nat) (x : Nat → Nat) (q : Nat) (w : World) (hm : n ≤ 9223372036854775807) (hr : Rd w w.heap.size A n (fl x)) :
    Calls Try.prog 6 #[.slice A n c, .float .f32 q] w fun e w' => e = .returned (.bool true) ∧ Below w.heap.size w w' := by
  have hs := fun A n c B w hm hB ha => count_spec A n c B x q w hm hB ha
  have hi := fun A n c B w hm hB ha => count_impl A n c B x q w hm hB ha
  generalize cntR x q = R at hs hi
  by_cases hl : n ≤ 1048576
  · have hl' : (n : Int) ≤ 1048576 := by omega
    go_enter Try.func6, Try.ntmps6
    go_wp2_with fail
    refine (toF _ _ _ _ _ (by omega) hr).mono ?_
    rintro e w1 ⟨A1, c1, rfl, ho1, hg1⟩
    have R1 := Rd.of_lst ho1 (Nat.mul_one _).symm
    go_wp2_with fail
    refine (hs _ _ _ _ _ hm (Nat.le_refl _) R1).mono ?_
    rintro e w2 ⟨rfl, hg2⟩
    have g2 := hg1.trans hg2
    go_wp2_with fail
    refine (toF _ _ _ _ _ (by omega) ((hr.kept0 g2 (Nat.le_refl _)).mono g2.size)).mono ?_
    rintro e w3 ⟨A3, c3, rfl, ho3, hg3⟩
    have R3 := Rd.of_lst ho3 (Nat.mul_one _).symm
    have g3 := g2.trans hg3
    go_wp2_with fail
    refine (hi _ _ _ _ _ hm (Nat.le_refl _) R3).mono ?_
    rintro e w4 ⟨rfl, hg4⟩
    have g4 := g3.trans hg4
    go_wp2_with fail
    refine (toF _ _ _ _ _ (by omega) ((hr.kept0 g4 (Nat.le_refl _)).mono g4.size)).mono ?_
    rintro e w5 ⟨A5, c5, rfl, ho5, hg5⟩
    have R5 := Rd.of_lst ho5 (Nat.mul_one _).symm
    have h35 := hg4.trans hg5
    go_wp2_with fail
    refine (eqF_true _ _ _ _ _ _ _ _ hm (Nat.le_refl _) ((R3.kept0 h35 (Nat.le_refl _)).mono h35.size) R5).mono ?_
    rintro e w6 ⟨rfl, hg6⟩
    go_wp2_with fail
    go_ret
    exact ⟨rfl, gb_below ((g4.trans hg5).trans hg6)⟩
  · have hl' : (1048576 : Int) < n := by omega
    go_enter Try.func6, Try.ntmps6
    go_wp2_with fail
    go_ret
    exact ⟨rfl, Below.refl _ _⟩

theorem walk (a0 : Option Addr) (len0 cap0 : Nat) (z0 : Nat → Nat) (a1 : Nat) (w : World) (l0 : len0 ≤ cap0) (m0 : cap0 ≤ maxLen) (w0 : ∀ j, j < len0 → (Lit.float .f32 (z0 j)).wf = true) (r0 : Rd w w.heap.size a0 len0 (fl z0)) (w1 : (Lit.float .f32 a1).wf = true) :
    Calls Try.prog 6 #[.slice a0 len0 cap0, .float .f32 a1] w fun e w' => e = .returned (.bool true) ∧ Below w.heap.size w w' := by
  unfold maxLen at m0
  exact law a0 len0 cap0 z0 a1 w (by omega) r0

set_option maxRecDepth 100000 in
theorem lifted (os : Os) (started : os.Started) (H : Type) (enc : TypeId × Value → H) :
    ReturnsInHanded {} Try.checked os 6 .any (Rows.fnExactCountSourcesSpec.pre6 enc Try.prog Try.f6 Rows.fnExactCountSourcesRow.domain false) (Rows.fnExactCountSourcesSpec.post enc Try.prog Try.f6 false true false false) := by
  refine returnsInHanded_of_change (C := Try.checked) own started (by kernel_rfl) Try.func6
    (ChangeSpec.witness6 (enc := enc) (C := Try.checked) false ⟨#[], #[.slice none 0 0, .float .f32 0], []⟩ 8 (by kernel_rfl) (by kernel_rfl) (by kernel_rfl) (by kernel_rfl)) ?_
  intro W base args ds gs before hval0 hW hcnd _
  have hval : ∀ (j : Nat) t v, Try.f6.params[j]? = some t → args[j]? = some v → Value.okWide Try.prog W .any base t v := hval0
  have hW' := hW
  obtain ⟨p, q, hA0, hV, rfl, hfz, hnd⟩ := hW
  have hA : DataW.TrodAll enc Try.prog W 0 (fun _ => true) true Try.f6.params.toList args.toList ds p := hA0
  rw [Try.params6] at hA hval
  obtain ⟨v0, vs0, d0, ds0, p0, q0, hargs, rfl, rfl, h0, r0⟩ := trodAll_cons hA
  obtain ⟨v1, vs1, d1, ds1, p1, q1, rfl, rfl, rfl, h1, r1⟩ := trodAll_cons r0
  obtain ⟨rfl, rfl, rfl⟩ := trodAll_nil r1
  obtain rfl : args = #[v0, v1] := by cases args; simp_all
  obtain ⟨rfl, rfl⟩ := trodVars_none hV
  obtain ⟨a0, len0, cap0, rfl⟩ := okWide_slice Try.underlying39 (hval 0 39 v0 rfl rfl)
  have k0 := h0
  have lt0 : ∀ x ∈ p0, x.block < W.heap.size := by obtain ⟨m, hm⟩ := k0; exact DataW.trod_lt m _ _ _ hm
  obtain ⟨z0, l0, m0, w0, r0'⟩ := opened_floats Try.underlying39 Try.underlying29 (by kernel_rfl) k0
  obtain ⟨a1, rfl, rfl, rfl, w1⟩ := open_float Try.underlying29 (hval 1 29 v1 rfl rfl) h1
  clear hA0 hval0
  refine (walk a0 len0 cap0 z0 a1 W l0 m0 w0 r0' w1).mono fun e W' ⟨he, bel⟩ => ?_
  subst he
  exact ⟨_, rfl, _, _, _, [], _, [], hW', trodAll_mk1 (shut_bool Try.underlying4 _), (trodAll_cons_mk (Below.trod laidOut (by kernel_rfl) (of_decide_eq_true (by kernel_rfl)) k0 bel lt0) (trodAll_cons_mk (shut_float Try.underlying29 w1) trodAll_mk0)), rfl, bel.frame _, fun h => by cases h⟩

set_option maxHeartbeats 8000000 in
theorem over : Rows.fnExactCountSourcesRow.holds Try.pinned (OpenSpec.ofChange Rows.fnExactCountSourcesSpec) :=
  OpenClaim.holds_of_wide 6 Try.f6 rfl rfl rfl rfl rfl rfl rfl ⟨rfl, rfl, rfl, rfl, rfl⟩ rfl rfl rfl rfl rfl (by as_aux_lemma => kernel_rfl) Try.func6 (by as_aux_lemma => kernel_rfl)
    (of_decide_eq_true (by as_aux_lemma => kernel_rfl)) (by unfold Func.isWrapper; first | (rw [if_pos (by decide +kernel)]; kernel_rfl) | (rw [if_neg (by decide +kernel)]; exact ⟨rfl, rfl⟩))
    (fun os started H enc _ => lifted os started H enc)

theorem proved : Rows.FnExactCountSourcesSaid := over
#print axioms proved
end Go.Proofs.Ytpeclgfopincbaa.countSources
