/- The law on FewestMarks answers true at every length. No condition. -/
import Derived.Test.YtpeclgfopincbaaRows
import Derived.Test.YtpeclgfopincbaaSlc
import Derived.Test.YtpeclgfopincbaaSmall
import Derived.Test.YtpeclgfopincbaaListI
import Derived.Test.YtpeclgfopincbaaMarks
import Derived.Test.YtpeclgfopincbaaPut
import Derived.Test.YtpeclgfopincbaaDiff
import Derived.Test.YtpeclgfopincbaaISet
import Derived.Test.YtpeclgfopincbaaISize
import Derived.Test.YtpeclgfopincbaaHoles
import Derived.Test.YtpeclgfopincbaaRuler
import Derived.Test.YtpeclgfopincbaaSearch
import Derived.Test.YtpeclgfopincbaaExt
import Derived.Test.YtpeclgfopincbaaRulN
import Derived.Test.YtpeclgfopincbaaLeastM
import Derived.Test.YtpeclgfopincbaaHoles2
import Derived.Test.YtpeclgfopincbaaFewN
import Derived.Test.YtpeclgfopincbaaSpecRul
import Derived.Test.YtpeclgfopincbaaFewA
import Derived.Test.YtpeclgfopincbaaFewS
import Derived.WalkKit
import Derived.ProofKit
import Derived.OpenShut
import Derived.ShutString
import Derived.ChangeOld
import Derived.Below
import Derived.Lib.Hide
import Derived.BigQuiet
import Derived.Deep.QuietTactic
import Derived.WalkLawsBesides
import Derived.Outline
import Derived.Deep.QuietTactic
import Derived.BigQuiet
import Derived.Deep.LoopGhost
namespace Go.Proofs.Ytpeclgfopincbaa.fewestMarks
open Go.ChangeShapes Go.WideShapes Go.ChangeAt Go.RowKit
open Go.ChangeMaps (open_string shut_string)
set_option linter.unusedVariables false
theorem own : ownKnob Try.prog.godebug = none := by kernel_rfl
theorem laidOut : laidOutB Try.prog = true := by kernel_rfl
open Go Go.RowKit
open Go.Proofs.Ytpeclgfopincbaa.slc Go.Proofs.Ytpeclgfopincbaa.listI Go.Proofs.Ytpeclgfopincbaa.small Go.Proofs.Ytpeclgfopincbaa.search Go.Proofs.Ytpeclgfopincbaa.fewA Go.Proofs.Ytpeclgfopincbaa.fewS

set_option maxHeartbeats 400000 in
set_option maxRecDepth 100000 in
theorem law (a : Int) (xs : List Int) (ok : Bool) (w : World) (hl : xs.length ≤ 65536) (hs : GivesI 57 #[.int .i64 a] xs ok) (hi : GivesI 58 #[.int .i64 a] xs ok) :
    Calls Try.prog 10 #[.int .i64 a] w fun e w' => e = .returned (.bool true) ∧ Below w.heap.size w w' := by
  have hints := Ints.of xs xs.length (Nat.le_refl _)
  have hlst : ints xs = lst (fun j => (ints xs).getD j undef) xs.length := by rw [← ints_len xs, lst_of]
  have HL := Lib.hid hlst
  clear hlst
  go_enter Try.func10, Try.ntmps10
  go_wp2_with fail
  refine (hs _).mono ?_
  rintro e w1 ⟨A1, c1, rfl, ho1, hg1⟩
  go_wp2_with fail
  refine (hi _).mono ?_
  rintro e w2 ⟨A2, c2, rfl, ho2, hg2⟩
  have R1 := Rd.of_own ho1 (Nat.mul_one _).symm
  have R1b := (R1.kept0 hg2 (Nat.le_refl _)).mono hg2.size
  have R2 := Rd.of_own ho2 (Nat.mul_one _).symm
  go_wp2_with fail
  refine (eqI_true _ _ _ _ _ _ _ _ (by omega) hints R2 R1b).mono ?_
  rintro e w3 ⟨rfl, hg3⟩
  have ho2c := own_kept0 ho2 hg3
  rw [HL.out] at ho2c
  have R1c := R1.kept0 (hg2.trans hg3) (Nat.le_refl _)
  have hsz3 := Nat.le_trans hg2.size hg3.size
  go_wp2_with fail
  refine (markI1 _ _ _ _ _ _ _ (by omega) ho2c).mono ?_
  rintro e w4 ⟨rfl, ho4, hg4⟩
  have R1d := R1c.kept hg4 hsz3 (far_of ho2 (Nat.le_refl _))
  have hsz4 := Nat.le_trans hsz3 hg4.size
  have R4 := Rd.of_lst ho4 (Nat.mul_one _).symm
  go_wp2_with fail
  refine (heldI1 _ _ _ _ _ (by omega) R4).mono ?_
  rintro e w' ⟨rfl, rfl⟩
  go_wp2_with fail
  refine (hi _).mono ?_
  rintro e w5 ⟨A5, c5, rfl, ho5, hg5⟩
  have R5 := Rd.of_own ho5 (Nat.mul_one _).symm
  have R1e := (R1d.kept0 hg5 hsz4).mono (Nat.le_trans hsz4 hg5.size)
  go_wp2_with fail
  refine (eqI_true _ _ _ _ _ _ _ _ (by omega) hints R5 R1e).mono ?_
  rintro e w6 ⟨rfl, hg6⟩
  have R4f := R4.kept0 (hg5.trans hg6) (Nat.le_refl _)
  go_wp2_with fail
  refine (heldI1 _ _ _ _ _ (by omega) R4f).mono ?_
  rintro e w' ⟨rfl, rfl⟩
  go_wp2_with fail
  go_ret
  exact ⟨rfl, gb_below ((gb_new ((hg1.trans hg2).trans hg3) hg4 (base_of ho2 hg1.size)).trans (hg5.trans hg6))⟩

theorem frF_len {n : Nat} (h : n ≤ 12) : ((frF n).getD []).length ≤ 65536 := by
  cases hf : frF n with
  | none => simp
  | some r =>
    obtain ⟨m, hm, h2, hr⟩ := tryL_some _ _ hf
    have := gF_len hm hr
    simp
    omega
theorem spec_no (a : Int) (w : World) (h : a < 0 ∨ 12 < a) : Calls Try.prog 57 #[.int .i64 a] w fun e w' => ∃ A c, e = .returned (.tuple #[.slice A ([] : List Int).length c, .bool false]) ∧ w'.ownsRow w.heap.size 2 1 (.slice A ([] : List Int).length c) ([] : List Int).length (ints []) ∧ w.grownBy w' none := by
  go_enter Try.func57, Try.ntmps57
  go_wp2_with fail
  refine (in_no _ _ _ _ h).mono ?_
  rintro e w' ⟨rfl, rfl⟩
  go_wp2_with fail
  go_ret2
  exact ⟨none, 0, rfl, World.ownsRow_nil _ _ _ _, World.grownBy.refl _ _⟩
theorem impl_no (a : Int) (w : World) (h : a < 0 ∨ 12 < a) : Calls Try.prog 58 #[.int .i64 a] w fun e w' => ∃ A c, e = .returned (.tuple #[.slice A ([] : List Int).length c, .bool false]) ∧ w'.ownsRow w.heap.size 2 1 (.slice A ([] : List Int).length c) ([] : List Int).length (ints []) ∧ w.grownBy w' none := by
  have ga := World.grownBy_alloc w (.cells #[.int .i64 a] 2) none
  go_enter Try.func58, Try.ntmps58
  go_wp2_with fail
  refine (within_no _ _ _ _ h).mono ?_
  rintro e w' ⟨rfl, rfl⟩
  go_wp2_with fail
  go_ret2
  exact ⟨none, 0, rfl, World.ownsRow_nil _ _ _ _, ga⟩

theorem walk (a0 : Int) (w : World) (w0 : (Lit.int .i64 a0).wf = true) :
    Calls Try.prog 10 #[.int .i64 a0] w fun e w' => e = .returned (.bool true) ∧ Below w.heap.size w w' := by
  by_cases h : 0 ≤ a0 ∧ a0 ≤ 12
  · obtain ⟨n, rfl⟩ : ∃ n : Nat, a0 = (n : Int) := ⟨a0.toNat, by omega⟩
    exact law _ ((frF n).getD []) (frF n).isSome w (frF_len (by omega)) (fun w => few_spec n w (by omega)) (fun w => few_impl n w (by omega))
  · exact law _ [] false w (by simp) (fun w => spec_no a0 w (by omega)) (fun w => impl_no a0 w (by omega))

set_option maxRecDepth 100000 in
theorem lifted (os : Os) (started : os.Started) (H : Type) (enc : TypeId × Value → H) :
    ReturnsInHanded {} Try.checked os 10 .any (Rows.fnExactFewestMarksSpec.pre6 enc Try.prog Try.f10 Rows.fnExactFewestMarksRow.domain false) (Rows.fnExactFewestMarksSpec.post enc Try.prog Try.f10 false true false false) := by
  refine returnsInHanded_of_change (C := Try.checked) own started (by kernel_rfl) Try.func10
    (ChangeSpec.witness6 (enc := enc) (C := Try.checked) false ⟨#[], #[.int .i64 0], []⟩ 8 (by kernel_rfl) (by kernel_rfl) (by kernel_rfl) (by kernel_rfl)) ?_
  intro W base args ds gs before hval0 hW hcnd _
  have hval : ∀ (j : Nat) t v, Try.f10.params[j]? = some t → args[j]? = some v → Value.okWide Try.prog W .any base t v := hval0
  have hW' := hW
  obtain ⟨p, q, hA0, hV, rfl, hfz, hnd⟩ := hW
  have hA : DataW.TrodAll enc Try.prog W 0 (fun _ => true) true Try.f10.params.toList args.toList ds p := hA0
  rw [Try.params10] at hA hval
  obtain ⟨v0, vs0, d0, ds0, p0, q0, hargs, rfl, rfl, h0, r0⟩ := trodAll_cons hA
  obtain ⟨rfl, rfl, rfl⟩ := trodAll_nil r0
  obtain rfl : args = #[v0] := by cases args; simp_all
  obtain ⟨rfl, rfl⟩ := trodVars_none hV
  obtain ⟨a0, rfl, rfl, rfl, w0⟩ := open_int Try.underlying2 (hval 0 2 v0 rfl rfl) h0
  clear hA0 hval0
  refine (walk a0 W w0).mono fun e W' ⟨he, bel⟩ => ?_
  subst he
  exact ⟨_, rfl, _, _, _, [], _, [], hW', trodAll_mk1 (shut_bool Try.underlying4 _), (trodAll_cons_mk (shut_int Try.underlying2 w0) trodAll_mk0), rfl, bel.frame _, fun h => by cases h⟩

set_option maxHeartbeats 8000000 in
theorem over : Rows.fnExactFewestMarksRow.holds Try.pinned (OpenSpec.ofChange Rows.fnExactFewestMarksSpec) :=
  OpenClaim.holds_of_wide 10 Try.f10 rfl rfl rfl rfl rfl rfl rfl ⟨rfl, rfl, rfl, rfl, rfl⟩ rfl rfl rfl rfl rfl (by as_aux_lemma => kernel_rfl) Try.func10 (by as_aux_lemma => kernel_rfl)
    (of_decide_eq_true (by as_aux_lemma => kernel_rfl)) (by unfold Func.isWrapper; first | (rw [if_pos (by decide +kernel)]; kernel_rfl) | (rw [if_neg (by decide +kernel)]; exact ⟨rfl, rfl⟩))
    (fun os started H enc _ => lifted os started H enc)

theorem proved : Rows.FnExactFewestMarksSaid := over
#print axioms proved
end Go.Proofs.Ytpeclgfopincbaa.fewestMarks
