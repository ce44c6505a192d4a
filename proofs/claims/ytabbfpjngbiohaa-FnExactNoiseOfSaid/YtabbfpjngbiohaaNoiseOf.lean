/- The law on NoiseOf answers true at every three numbers and every level. No condition. -/
import Derived.Test.YtabbfpjngbiohaaRows
import Derived.Test.YtabbfpjngbiohaaSlc
import Derived.Test.YtabbfpjngbiohaaFloats
import Derived.Test.YtabbfpjngbiohaaRound
import Derived.Test.YtabbfpjngbiohaaValues
import Derived.Test.YtabbfpjngbiohaaConv
import Derived.Test.YtabbfpjngbiohaaFWalk
import Derived.Test.YtabbfpjngbiohaaFinWalk
import Derived.Test.YtabbfpjngbiohaaFloat2
import Derived.Test.YtabbfpjngbiohaaFloat3
import Derived.Test.YtabbfpjngbiohaaPhase
import Derived.Test.YtabbfpjngbiohaaSine
import Derived.Test.YtabbfpjngbiohaaPhasor
import Derived.Test.YtabbfpjngbiohaaListC
import Derived.Test.YtabbfpjngbiohaaListCC
import Derived.Test.YtabbfpjngbiohaaSmall
import Derived.Test.YtabbfpjngbiohaaSeeds
import Derived.Test.YtabbfpjngbiohaaNoise
import Derived.WalkKit
import Derived.ProofKit
import Derived.OpenShut
import Derived.ShutString
import Derived.ChangeOld
import Derived.Below
import Derived.Lib.Hide
import Derived.BigQuiet
import Derived.Deep.QuietTactic
import Derived.WalkLawsBesides
import Derived.Outline
namespace Go.Proofs.Ytabbfpjngbiohaa.noiseOf
open Go.ChangeShapes Go.WideShapes Go.ChangeAt Go.RowKit
open Go.ChangeMaps (open_string shut_string)
set_option linter.unusedVariables false
theorem own : ownKnob Try.prog.godebug = none := by kernel_rfl
theorem laidOut : laidOutB Try.prog = true := by kernel_rfl
open Go Ieee
open Go.Proofs.Ytabbfpjngbiohaa.slc Go.Proofs.Ytabbfpjngbiohaa.floats Go.Proofs.Ytabbfpjngbiohaa.listC Go.Proofs.Ytabbfpjngbiohaa.listCC Go.Proofs.Ytabbfpjngbiohaa.seeds Go.Proofs.Ytabbfpjngbiohaa.noise
theorem both (s i el : Int) (t : Nat) : ∃ a b u, (∀ w, Calls Try.prog 35 #[.int .i64 s, .int .i64 i, .int .i64 el, .float .f32 t] w fun e w' => ∃ p q, e = .returned (.tuple #[.complex .f32 p q, .bool u]) ∧ can .f32 p = a ∧ can .f32 q = b ∧ w.grownBy w' none) ∧
    (∀ w, Calls Try.prog 36 #[.int .i64 s, .int .i64 i, .int .i64 el, .float .f32 t] w fun e w' => ∃ p q, e = .returned (.tuple #[.complex .f32 p q, .bool u]) ∧ can .f32 p = a ∧ can .f32 q = b ∧ w.grownBy w' none) := by
  by_cases h : (0 ≤ s ∧ s ≤ 2147483647) ∧ (0 ≤ i ∧ i ≤ 1000000) ∧ (0 ≤ el ∧ el ≤ 15)
  · exact ⟨_, _, _, fun w => noise_s s i el t w h.1.1 h.1.2 h.2.1.1 h.2.1.2 h.2.2.1 h.2.2.2, fun w => noise_i s i el t w h.1.1 h.1.2 h.2.1.1 h.2.1.2 h.2.2.1 h.2.2.2⟩
  · refine ⟨can .f32 0, can .f32 0, false, fun w => (noiseno_s s i el t w h).mono ?_, fun w => (noiseno_i s i el t w h).mono ?_⟩
    all_goals
      rintro e w' ⟨rfl, rfl⟩
      exact ⟨0, 0, rfl, rfl, rfl, World.grownBy.refl _ _⟩
theorem walk (a0 a1 a2 : Int) (a3 : Nat) (w : World) (w0 : (Lit.int .i64 a0).wf = true) (w1 : (Lit.int .i64 a1).wf = true) (w2 : (Lit.int .i64 a2).wf = true) (w3 : (Lit.float .f32 a3).wf = true) :
    Calls Try.prog 7 #[.int .i64 a0, .int .i64 a1, .int .i64 a2, .float .f32 a3] w fun e w' => e = .returned (.bool true) ∧ Below w.heap.size w w' := by
  obtain ⟨a, b, u, hs, hi⟩ := both a0 a1 a2 a3
  have HS := Lib.hid hs
  have HI := Lib.hid hi
  have hcc := fun a b w => cc_any a b w
  clear hs hi w0 w1 w2 w3
  go_enter Try.func7, Try.ntmps7
  go_wp2_with fail
  refine (HS.out _).mono ?_
  rintro e w1 ⟨p, q, rfl, hp, hq, g1⟩
  have HP := Lib.hid hp
  have HQ := Lib.hid hq
  clear hp hq
  go_wp2_with fail
  refine (HI.out _).mono ?_
  rintro e w2 ⟨p', q', rfl, hp, hq, g2⟩
  have HP' := Lib.hid (hp.trans HP.out.symm)
  have HQ' := Lib.hid (hq.trans HQ.out.symm)
  clear hp hq
  go_wp2_with fail
  refine (same_x _ _ _ _ _ (can_wide HP'.out _ _) (can_wide HQ'.out _ _)).mono ?_
  rintro e w3 ⟨rfl, g3⟩
  go_wp2_with fail
  go_ret
  exact ⟨rfl, gb_below ((g1.trans g2).trans (by first | exact (gb_drewN _ _ _).trans g3 | exact ((gb_drewN _ _ _).trans (gb_drewN _ _ _)).trans g3))⟩

set_option maxRecDepth 100000 in
theorem lifted (os : Os) (started : os.Started) (H : Type) (enc : TypeId × Value → H) :
    ReturnsInHanded {} Try.checked os 7 .any (Rows.fnExactNoiseOfSpec.pre6 enc Try.prog Try.f7 Rows.fnExactNoiseOfRow.domain false) (Rows.fnExactNoiseOfSpec.post enc Try.prog Try.f7 false true false false) := by
  refine returnsInHanded_of_change (C := Try.checked) own started (by kernel_rfl) Try.func7
    (ChangeSpec.witness6 (enc := enc) (C := Try.checked) false ⟨#[], #[.int .i64 0, .int .i64 0, .int .i64 0, .float .f32 0], []⟩ 8 (by kernel_rfl) (by kernel_rfl) (by kernel_rfl) (by kernel_rfl)) ?_
  intro W base args ds gs before hval0 hW hcnd _
  have hval : ∀ (j : Nat) t v, Try.f7.params[j]? = some t → args[j]? = some v → Value.okWide Try.prog W .any base t v := hval0
  have hW' := hW
  obtain ⟨p, q, hA0, hV, rfl, hfz, hnd⟩ := hW
  have hA : DataW.TrodAll enc Try.prog W 0 (fun _ => true) true Try.f7.params.toList args.toList ds p := hA0
  rw [Try.params7] at hA hval
  obtain ⟨v0, vs0, d0, ds0, p0, q0, hargs, rfl, rfl, h0, r0⟩ := trodAll_cons hA
  obtain ⟨v1, vs1, d1, ds1, p1, q1, rfl, rfl, rfl, h1, r1⟩ := trodAll_cons r0
  obtain ⟨v2, vs2, d2, ds2, p2, q2, rfl, rfl, rfl, h2, r2⟩ := trodAll_cons r1
  obtain ⟨v3, vs3, d3, ds3, p3, q3, rfl, rfl, rfl, h3, r3⟩ := trodAll_cons r2
  obtain ⟨rfl, rfl, rfl⟩ := trodAll_nil r3
  obtain rfl : args = #[v0, v1, v2, v3] := by cases args; simp_all
  obtain ⟨rfl, rfl⟩ := trodVars_none hV
  obtain ⟨a0, rfl, rfl, rfl, w0⟩ := open_int Try.underlying2 (hval 0 2 v0 rfl rfl) h0
  obtain ⟨a1, rfl, rfl, rfl, w1⟩ := open_int Try.underlying2 (hval 1 2 v1 rfl rfl) h1
  obtain ⟨a2, rfl, rfl, rfl, w2⟩ := open_int Try.underlying2 (hval 2 2 v2 rfl rfl) h2
  obtain ⟨a3, rfl, rfl, rfl, w3⟩ := open_float Try.underlying29 (hval 3 29 v3 rfl rfl) h3
  clear hA0 hval0
  refine (walk a0 a1 a2 a3 W w0 w1 w2 w3).mono fun e W' ⟨he, bel⟩ => ?_
  subst he
  exact ⟨_, rfl, _, _, _, [], _, [], hW', trodAll_mk1 (shut_bool Try.underlying4 _), (trodAll_cons_mk (shut_int Try.underlying2 w0) (trodAll_cons_mk (shut_int Try.underlying2 w1) (trodAll_cons_mk (shut_int Try.underlying2 w2) (trodAll_cons_mk (shut_float Try.underlying29 w3) trodAll_mk0)))), rfl, bel.frame _, fun h => by cases h⟩

theorem over : Rows.fnExactNoiseOfRow.holds Try.pinned (OpenSpec.ofChange Rows.fnExactNoiseOfSpec) :=
  OpenClaim.holds_of_wide 7 Try.f7 rfl rfl rfl rfl rfl rfl rfl ⟨rfl, rfl, rfl, rfl, rfl⟩ rfl rfl rfl rfl rfl (by kernel_rfl) Try.func7 (by kernel_rfl)
    (of_decide_eq_true (by kernel_rfl)) (by unfold Func.isWrapper; first | (rw [if_pos (by decide +kernel)]; kernel_rfl) | (rw [if_neg (by decide +kernel)]; exact ⟨rfl, rfl⟩))
    (fun os started H enc _ => lifted os started H enc)

theorem proved : Rows.FnExactNoiseOfSaid := over
#print axioms proved
end Go.Proofs.Ytabbfpjngbiohaa.noiseOf
