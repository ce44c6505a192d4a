/- The law on ValidDirection answers true at every direction. No condition. -/
import Derived.Test.YtfenpbnoikgfnabRows
import Derived.Test.YtfenpbnoikgfnabSlc
import Derived.Test.YtfenpbnoikgfnabSmall
import Derived.Test.YtfenpbnoikgfnabOpens
import Derived.WalkKit
import Derived.ProofKit
import Derived.OpenShut
import Derived.ShutString
import Derived.ChangeOld
import Derived.Below
import Derived.Lib.Hide
import Derived.BigQuiet
import Derived.Deep.QuietTactic
import Derived.WalkLawsBesides
import Derived.Outline
import Derived.Deep.LoopGhost
namespace Go.Proofs.Ytfenpbnoikgfnab.validDirection
open Go.ChangeShapes Go.WideShapes Go.ChangeAt Go.RowKit
open Go.ChangeMaps (open_string shut_string)
set_option linter.unusedVariables false
theorem own : ownKnob Try.prog.godebug = none := by kernel_rfl
theorem laidOut : laidOutB Try.prog = true := by kernel_rfl
open Go Go.RowKit
open Go.Proofs.Ytfenpbnoikgfnab.slc Go.Proofs.Ytfenpbnoikgfnab.small Go.Proofs.Ytfenpbnoikgfnab.opens

theorem valid_spec (u v : Int) (w : World) :
    Calls Try.prog 20 #[.agg #[.int .i64 u, .int .i64 v]] w fun e w' => e = .returned (.bool (dirB u v)) ∧ w.grownBy w' none := by
  go_enter Try.func20, Try.ntmps20
  go_wp2_with fail
  refine (dir_spec u v _).mono ?_
  rintro e w1 ⟨rfl, hg1⟩
  go_wp2_with fail
  go_ret
  exact ⟨rfl, (World.grownBy_alloc _ _ _).trans hg1⟩

theorem walk (a0x a0y : Int) (w : World) (w0x : (Lit.int .i64 a0x).wf = true) (w0y : (Lit.int .i64 a0y).wf = true) :
    Calls Try.prog 4 #[.agg #[.int .i64 a0x, .int .i64 a0y]] w fun e w' => e = .returned (.bool true) ∧ Below w.heap.size w w' := by
  go_enter Try.func4, Try.ntmps4
  go_wp2_with fail
  refine (to_dir a0x a0y _).mono ?_
  rintro e w1 ⟨rfl, hg1⟩
  go_wp2_with fail
  refine (valid_spec a0x a0y _).mono ?_
  rintro e w2 ⟨rfl, hg2⟩
  have hc0 := (boxed2 (hg1.trans hg2)).1
  have hc1 := (boxed2 (hg1.trans hg2)).2
  go_wp2_with fail
  refine (to_dir a0x a0y _).mono ?_
  rintro e w3 ⟨rfl, hg3⟩
  go_wp2_with fail
  refine (dir_impl a0x a0y _).mono ?_
  rintro e w4 ⟨rfl, hg4⟩
  go_wp2_with fail
  go_ret
  exact ⟨rfl, gb_below ((World.grownBy_alloc _ _ _).trans ((hg1.trans hg2).trans (hg3.trans hg4)))⟩

set_option maxRecDepth 100000 in
theorem lifted (os : Os) (started : os.Started) (H : Type) (enc : TypeId × Value → H) :
    ReturnsInHanded {} Try.checked os 4 .any (Rows.fnExactValidDirectionSpec.pre6 enc Try.prog Try.f4 Rows.fnExactValidDirectionRow.domain false) (Rows.fnExactValidDirectionSpec.post enc Try.prog Try.f4 false true false false) := by
  refine returnsInHanded_of_change (C := Try.checked) own started (by kernel_rfl) Try.func4
    (ChangeSpec.witness6 (enc := enc) (C := Try.checked) false ⟨#[], #[.agg #[.int .i64 0, .int .i64 0]], []⟩ 8 (by kernel_rfl) (by kernel_rfl) (by kernel_rfl) (by kernel_rfl)) ?_
  intro W base args ds gs before hval0 hW hcnd _
  have hval : ∀ (j : Nat) t v, Try.f4.params[j]? = some t → args[j]? = some v → Value.okWide Try.prog W .any base t v := hval0
  have hW' := hW
  obtain ⟨p, q, hA0, hV, rfl, hfz, hnd⟩ := hW
  have hA : DataW.TrodAll enc Try.prog W 0 (fun _ => true) true Try.f4.params.toList args.toList ds p := hA0
  rw [Try.params4] at hA hval
  obtain ⟨v0, vs0, d0, ds0, p0, q0, hargs, rfl, rfl, h0, r0⟩ := trodAll_cons hA
  obtain ⟨rfl, rfl, rfl⟩ := trodAll_nil r0
  obtain rfl : args = #[v0] := by cases args; simp_all
  obtain ⟨rfl, rfl⟩ := trodVars_none hV
  obtain ⟨a0x, a0y, rfl, rfl, rfl, w0x, w0y⟩ := opened_pair Try.underlying30 (by kernel_rfl) (by kernel_rfl) Try.underlying2 Try.underlying2 (hval 0 30 v0 rfl rfl) h0
  clear hA0 hval0
  refine (walk a0x a0y W w0x w0y).mono fun e W' ⟨he, bel⟩ => ?_
  subst he
  exact ⟨_, rfl, _, _, _, [], _, [], hW', trodAll_mk1 (shut_bool Try.underlying4 _), (trodAll_cons_mk (shut_pair Try.underlying30 (by kernel_rfl) (by kernel_rfl) Try.underlying2 Try.underlying2 w0x w0y) trodAll_mk0), rfl, bel.frame _, fun h => by cases h⟩

theorem over : Rows.fnExactValidDirectionRow.holds Try.pinned (OpenSpec.ofChange Rows.fnExactValidDirectionSpec) :=
  OpenClaim.holds_of_wide 4 Try.f4 rfl rfl rfl rfl rfl rfl rfl ⟨rfl, rfl, rfl, rfl, rfl⟩ rfl rfl rfl rfl rfl (by kernel_rfl) Try.func4 (by kernel_rfl)
    (of_decide_eq_true (by kernel_rfl)) (by unfold Func.isWrapper; first | (rw [if_pos (by decide +kernel)]; kernel_rfl) | (rw [if_neg (by decide +kernel)]; exact ⟨rfl, rfl⟩))
    (fun os started H enc _ => lifted os started H enc)

theorem proved : Rows.FnExactValidDirectionSaid := over
#print axioms proved
end Go.Proofs.Ytfenpbnoikgfnab.validDirection
