/- The law on FarBeams answers true at every list of beams and every distance. No condition. -/
import Derived.Test.YtkjmlpdbnnmlhaaRows
import Derived.Test.YtkjmlpdbnnmlhaaSlc
import Derived.Test.YtkjmlpdbnnmlhaaSmall
import Derived.Test.YtkjmlpdbnnmlhaaOpens
import Derived.Test.YtkjmlpdbnnmlhaaListI
import Derived.Test.YtkjmlpdbnnmlhaaNestI
import Derived.Test.YtkjmlpdbnnmlhaaBeams
import Derived.Test.YtkjmlpdbnnmlhaaListBeam
import Derived.Test.YtkjmlpdbnnmlhaaPlanNum
import Derived.Test.YtkjmlpdbnnmlhaaSwT
import Derived.Test.YtkjmlpdbnnmlhaaBeamsOk
import Derived.Test.YtkjmlpdbnnmlhaaPlanDue
import Derived.Test.YtkjmlpdbnnmlhaaFarF
import Derived.Test.YtkjmlpdbnnmlhaaNestG
import Derived.Test.YtkjmlpdbnnmlhaaFarC
import Derived.Test.YtkjmlpdbnnmlhaaFarS
import Derived.Test.YtkjmlpdbnnmlhaaPlanLaw
import Derived.Test.YtkjmlpdbnnmlhaaListSlot
import Derived.Test.YtkjmlpdbnnmlhaaFarLaw
import Derived.WalkKit
import Derived.ProofKit
import Derived.OpenShut
import Derived.ShutString
import Derived.ChangeOld
import Derived.Below
import Derived.Lib.Hide
import Derived.BigQuiet
import Derived.Deep.QuietTactic
import Derived.WalkLawsBesides
import Derived.Outline
import Derived.Deep.LoopGhost
namespace Go.Proofs.Ytkjmlpdbnnmlhaa.farBeams
open Go.ChangeShapes Go.WideShapes Go.ChangeAt Go.RowKit
open Go.ChangeMaps (open_string shut_string)
set_option linter.unusedVariables false
theorem own : ownKnob Try.prog.godebug = none := by kernel_rfl
theorem laidOut : laidOutB Try.prog = true := by kernel_rfl
open Go Go.RowKit
open Go.Proofs.Ytkjmlpdbnnmlhaa.slc Go.Proofs.Ytkjmlpdbnnmlhaa.small Go.Proofs.Ytkjmlpdbnnmlhaa.opens Go.Proofs.Ytkjmlpdbnnmlhaa.beams Go.Proofs.Ytkjmlpdbnnmlhaa.listBeam Go.Proofs.Ytkjmlpdbnnmlhaa.planNum
theorem walk (a0 : Option Addr) (len0 cap0 : Nat) (z0 : List Bm) (a1 : Int) (w : World) (l0 : z0.length = len0) (m0 : len0 ≤ maxLen) (w0 : ∀ x ∈ z0, BWf x) (r0 : Rd w w.heap.size a0 (len0 * 4) (bcell z0)) (w1 : (Lit.int .i64 a1).wf = true) :
    Calls Try.prog 13 #[.slice a0 len0 cap0, .int .i64 a1] w fun e w' => e = .returned (.bool true) ∧ Below w.heap.size w w' :=
  Go.Proofs.Ytkjmlpdbnnmlhaa.farLaw.walk a0 len0 cap0 z0 a1 w l0 m0 w0 r0 w1

set_option maxRecDepth 100000 in
theorem lifted (os : Os) (started : os.Started) (H : Type) (enc : TypeId × Value → H) :
    ReturnsInHanded {} Try.checked os 13 .any (Rows.fnExactFarBeamsSpec.pre6 enc Try.prog Try.f13 Rows.fnExactFarBeamsRow.domain false) (Rows.fnExactFarBeamsSpec.post enc Try.prog Try.f13 false true false false) := by
  refine returnsInHanded_of_change (C := Try.checked) own started (by kernel_rfl) Try.func13
    (ChangeSpec.witness6 (enc := enc) (C := Try.checked) false ⟨#[], #[.slice none 0 0, .int .i64 0], []⟩ 8 (by kernel_rfl) (by kernel_rfl) (by kernel_rfl) (by kernel_rfl)) ?_
  intro W base args ds gs before hval0 hW hcnd _
  have hval : ∀ (j : Nat) t v, Try.f13.params[j]? = some t → args[j]? = some v → Value.okWide Try.prog W .any base t v := hval0
  have hW' := hW
  obtain ⟨p, q, hA0, hV, rfl, hfz, hnd⟩ := hW
  have hA : DataW.TrodAll enc Try.prog W 0 (fun _ => true) true Try.f13.params.toList args.toList ds p := hA0
  rw [Try.params13] at hA hval
  obtain ⟨v0, vs0, d0, ds0, p0, q0, hargs, rfl, rfl, h0, r0⟩ := trodAll_cons hA
  obtain ⟨v1, vs1, d1, ds1, p1, q1, rfl, rfl, rfl, h1, r1⟩ := trodAll_cons r0
  obtain ⟨rfl, rfl, rfl⟩ := trodAll_nil r1
  obtain rfl : args = #[v0, v1] := by cases args; simp_all
  obtain ⟨rfl, rfl⟩ := trodVars_none hV
  obtain ⟨a0, len0, cap0, rfl⟩ := okWide_slice Try.underlying22 (hval 0 22 v0 rfl rfl)
  have k0 := h0
  have lt0 : ∀ x ∈ p0, x.block < W.heap.size := by obtain ⟨m, hm⟩ := k0; exact DataW.trod_lt m _ _ _ hm
  obtain ⟨z0, l0, m0, w0, r0'⟩ := opened_beams Try.underlying22 Try.underlying81 (by kernel_rfl) rfl rfl rfl (by kernel_rfl) (by kernel_rfl) (by kernel_rfl) Try.underlying30 rfl rfl (by kernel_rfl) (by kernel_rfl) Try.underlying2 Try.underlying2 Try.underlying2 Try.underlying2 k0
  obtain ⟨a1, rfl, rfl, rfl, w1⟩ := open_int Try.underlying2 (hval 1 2 v1 rfl rfl) h1
  clear hA0 hval0
  refine (walk a0 len0 cap0 z0 a1 W l0 m0 w0 r0' w1).mono fun e W' ⟨he, bel⟩ => ?_
  subst he
  exact ⟨_, rfl, _, _, _, [], _, [], hW', trodAll_mk1 (shut_bool Try.underlying4 _), (trodAll_cons_mk (Below.trod laidOut (by kernel_rfl) (of_decide_eq_true (by kernel_rfl)) k0 bel lt0) (trodAll_cons_mk (shut_int Try.underlying2 w1) trodAll_mk0)), rfl, bel.frame _, fun h => by cases h⟩

set_option maxHeartbeats 8000000 in
theorem over : Rows.fnExactFarBeamsRow.holds Try.pinned (OpenSpec.ofChange Rows.fnExactFarBeamsSpec) :=
  OpenClaim.holds_of_wide 13 Try.f13 rfl rfl rfl rfl rfl rfl rfl ⟨rfl, rfl, rfl, rfl, rfl⟩ rfl rfl rfl rfl rfl (by as_aux_lemma => kernel_rfl) Try.func13 (by as_aux_lemma => kernel_rfl)
    (of_decide_eq_true (by as_aux_lemma => kernel_rfl)) (by unfold Func.isWrapper; first | (rw [if_pos (by decide +kernel)]; kernel_rfl) | (rw [if_neg (by decide +kernel)]; exact ⟨rfl, rfl⟩))
    (fun os started H enc _ => lifted os started H enc)

theorem proved : Rows.FnExactFarBeamsSaid := over
#print axioms proved
end Go.Proofs.Ytkjmlpdbnnmlhaa.farBeams
