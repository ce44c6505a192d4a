/- The law on SwitchTicks answers true at every two directions. No condition. -/
import Derived.Test.YtkjmlpdbnnmlhaaRows
import Derived.Test.YtkjmlpdbnnmlhaaSlc
import Derived.Test.YtkjmlpdbnnmlhaaSmall
import Derived.Test.YtkjmlpdbnnmlhaaOpens
import Derived.Test.YtkjmlpdbnnmlhaaPlanNum
import Derived.Test.YtkjmlpdbnnmlhaaSwT
import Derived.WalkKit
import Derived.ProofKit
import Derived.OpenShut
import Derived.ShutString
import Derived.ChangeOld
import Derived.Below
import Derived.Lib.Hide
import Derived.BigQuiet
import Derived.Deep.QuietTactic
import Derived.WalkLawsBesides
import Derived.Outline
import Derived.Deep.LoopGhost
import Derived.Deep.RegionHeld3
import Derived.Deep.QuietTactic
import Derived.BigQuiet
namespace Go.Proofs.Ytkjmlpdbnnmlhaa.switchTicks
open Go.ChangeShapes Go.WideShapes Go.ChangeAt Go.RowKit
open Go.ChangeMaps (open_string shut_string)
set_option linter.unusedVariables false
theorem own : ownKnob Try.prog.godebug = none := by kernel_rfl
theorem laidOut : laidOutB Try.prog = true := by kernel_rfl
open Go Go.RowKit
open Go.Proofs.Ytkjmlpdbnnmlhaa.slc Go.Proofs.Ytkjmlpdbnnmlhaa.small Go.Proofs.Ytkjmlpdbnnmlhaa.opens Go.Proofs.Ytkjmlpdbnnmlhaa.planNum Go.Proofs.Ytkjmlpdbnnmlhaa.swT

/-- What SwitchTicks returns. -/
def sr (u v u' v' : Int) : Int × Bool := if dirB u v = true ∧ dirB u' v' = true then (sw u v u' v', true) else (0, false)

set_option maxHeartbeats 800000 in
set_option maxRecDepth 100000 in
theorem impl_c (B : Nat) (u v u' v' : Int) (w : World) (hB : B ≤ w.heap.size) :
    Calls Try.prog 22 #[.agg #[.int .i64 u, .int .i64 v], .agg #[.int .i64 u', .int .i64 v']] w fun e w' => e = .returned (.tuple #[.int .i64 (sr u v u' v').1, .bool (sr u v u' v').2]) ∧ w.grownBy w' none := by
  clear hB
  cases h1 : dirB u v
  · rw [show sr u v u' v' = (0, false) by unfold sr; rw [if_neg (by simp [h1])]]
    have H1 := Lib.hid (fun w => dir_impl u v w)
    rw [h1] at H1
    clear h1
    go_enter Try.func22, Try.ntmps22
    go_wp2_with fail
    refine (H1.out _).mono ?_
    rintro e w1 ⟨rfl, g1⟩
    go_wp2_with fail
    go_ret2
    exact ⟨rfl, (World.grownBy_alloc _ _ _).trans ((World.grownBy_alloc _ _ _).trans g1)⟩
  · cases h2 : dirB u' v'
    · rw [show sr u v u' v' = (0, false) by unfold sr; rw [if_neg (by simp [h2])]]
      have H1 := Lib.hid (fun w => dir_impl u v w)
      have H2 := Lib.hid (fun w => dir_impl u' v' w)
      rw [h1] at H1
      rw [h2] at H2
      clear h1 h2
      go_enter Try.func22, Try.ntmps22
      go_wp2_with fail
      refine (H1.out _).mono ?_
      rintro e w1 ⟨rfl, g1⟩
      obtain ⟨b1, b2, b3, b4⟩ := boxed4 g1
      go_wp2_with fail
      refine (H2.out _).mono ?_
      rintro e w2 ⟨rfl, g2⟩
      go_wp2_with fail
      go_ret2
      exact ⟨rfl, ((World.grownBy_alloc _ _ _).trans ((World.grownBy_alloc _ _ _).trans g1)).trans g2⟩
    · rw [show sr u v u' v' = (sw u v u' v', true) by unfold sr; rw [if_pos ⟨h1, h2⟩]]
      have H1 := Lib.hid (fun w => dir_impl u v w)
      have H2 := Lib.hid (fun w => dir_impl u' v' w)
      have H3 := Lib.hid (fun w => sw_impl u v u' v' w (dir_bd h1) (dir_bd h2))
      rw [h1] at H1
      rw [h2] at H2
      clear h1 h2
      go_enter Try.func22, Try.ntmps22
      go_wp2_with fail
      refine (H1.out _).mono ?_
      rintro e w1 ⟨rfl, g1⟩
      obtain ⟨b1, b2, b3, b4⟩ := boxed4 g1
      go_wp2_with fail
      refine (H2.out _).mono ?_
      rintro e w2 ⟨rfl, g2⟩
      obtain ⟨c1, c2, c3, c4⟩ := boxed4 (g1.trans g2)
      go_wp2_with fail
      refine (H3.out _).mono ?_
      rintro e w3 ⟨rfl, g3⟩
      go_wp2_with fail
      go_ret2
      exact ⟨rfl, (((World.grownBy_alloc _ _ _).trans ((World.grownBy_alloc _ _ _).trans g1)).trans g2).trans g3⟩

set_option maxHeartbeats 800000 in
set_option maxRecDepth 100000 in
theorem spec_c (B : Nat) (u v u' v' : Int) (w : World) (hB : B ≤ w.heap.size) :
    Calls Try.prog 20 #[.agg #[.int .i64 u, .int .i64 v], .agg #[.int .i64 u', .int .i64 v']] w fun e w' => e = .returned (.tuple #[.int .i64 (sr u v u' v').1, .bool (sr u v u' v').2]) ∧ w.grownBy w' none := by
  clear hB
  cases h1 : dirB u v
  · rw [show sr u v u' v' = (0, false) by unfold sr; rw [if_neg (by simp [h1])]]
    have H1 := Lib.hid (fun w => dir_spec u v w)
    rw [h1] at H1
    clear h1
    go_enter Try.func20, Try.ntmps20
    go_wp2_with fail
    refine (H1.out _).mono ?_
    rintro e w1 ⟨rfl, g1⟩
    go_wp2_with fail
    go_ret2
    exact ⟨rfl, (World.grownBy_alloc _ _ _).trans ((World.grownBy_alloc _ _ _).trans g1)⟩
  · cases h2 : dirB u' v'
    · rw [show sr u v u' v' = (0, false) by unfold sr; rw [if_neg (by simp [h2])]]
      have H1 := Lib.hid (fun w => dir_spec u v w)
      have H2 := Lib.hid (fun w => dir_spec u' v' w)
      rw [h1] at H1
      rw [h2] at H2
      clear h1 h2
      go_enter Try.func20, Try.ntmps20
      go_wp2_with fail
      refine (H1.out _).mono ?_
      rintro e w1 ⟨rfl, g1⟩
      obtain ⟨b1, b2, b3, b4⟩ := boxed4 g1
      go_wp2_with fail
      refine (H2.out _).mono ?_
      rintro e w2 ⟨rfl, g2⟩
      go_wp2_with fail
      go_ret2
      exact ⟨rfl, ((World.grownBy_alloc _ _ _).trans ((World.grownBy_alloc _ _ _).trans g1)).trans g2⟩
    · rw [show sr u v u' v' = (sw u v u' v', true) by unfold sr; rw [if_pos ⟨h1, h2⟩]]
      have H1 := Lib.hid (fun w => dir_spec u v w)
      have H2 := Lib.hid (fun w => dir_spec u' v' w)
      have H3 := Lib.hid (fun w => sw_spec u v u' v' w (dir_bd h1) (dir_bd h2))
      rw [h1] at H1
      rw [h2] at H2
      clear h1 h2
      go_enter Try.func20, Try.ntmps20
      go_wp2_with fail
      refine (H1.out _).mono ?_
      rintro e w1 ⟨rfl, g1⟩
      obtain ⟨b1, b2, b3, b4⟩ := boxed4 g1
      go_wp2_with fail
      refine (H2.out _).mono ?_
      rintro e w2 ⟨rfl, g2⟩
      obtain ⟨c1, c2, c3, c4⟩ := boxed4 (g1.trans g2)
      go_wp2_with fail
      refine (H3.out _).mono ?_
      rintro e w3 ⟨rfl, g3⟩
      go_wp2_with fail
      go_ret2
      exact ⟨rfl, (((World.grownBy_alloc _ _ _).trans ((World.grownBy_alloc _ _ _).trans g1)).trans g2).trans g3⟩

set_option maxHeartbeats 800000 in
set_option maxRecDepth 100000 in
theorem walk (a0x a0y a1x a1y : Int) (w : World) (w0x : (Lit.int .i64 a0x).wf = true) (w0y : (Lit.int .i64 a0y).wf = true) (w1x : (Lit.int .i64 a1x).wf = true) (w1y : (Lit.int .i64 a1y).wf = true) :
    Calls Try.prog 4 #[.agg #[.int .i64 a0x, .int .i64 a0y], .agg #[.int .i64 a1x, .int .i64 a1y]] w fun e w' => e = .returned (.bool true) ∧ Below w.heap.size w w' := by
  have hbox : w.grownBy ((w.alloc (.cells #[.int .i64 a0x, .int .i64 a0y] 30)).alloc (.cells #[.int .i64 a1x, .int .i64 a1y] 30)) none := (World.grownBy_alloc _ _ _).trans (World.grownBy_alloc _ _ _)
  go_enter Try.func4, Try.ntmps4
  go_wp2_with fail
  go_region_held3 (fun w' => w'.cell? ⟨w.heap.size, 0, none⟩ = some (.int .i64 a0x) ∧ w'.cell? ⟨w.heap.size, 1, none⟩ = some (.int .i64 a0y) ∧
      w'.cell? ⟨w.heap.size + 1, 0, none⟩ = some (.int .i64 a1x) ∧ w'.cell? ⟨w.heap.size + 1, 1, none⟩ = some (.int .i64 a1y) ∧ w.grownBy w' none)
    (first
      | (go_split_ands
         exact ⟨hg.cell (by assumption) (by simp), hg.cell (by assumption) (by simp), hg.cell (by assumption) (by simp), hg.cell (by assumption) (by simp), World.grownBy.trans (by assumption) hg⟩)
      | (obtain ⟨k0, k1, k2, k3⟩ := boxed4 (World.grownBy.refl ((w.alloc (.cells #[.int .i64 a0x, .int .i64 a0y] 30)).alloc (.cells #[.int .i64 a1x, .int .i64 a1y] 30)) none)
         exact ⟨k0, k1, k2, k3, ⟨hbox.os, hbox.tape, hbox.output, hbox.size, hbox.block⟩⟩))
    ((first
      | (go_at_call 21; refine (to_dir _ _ _).mono ?_; rintro e w' ⟨rfl, hg⟩)
      | (go_at_call 20; refine (spec_c 0 _ _ _ _ _ (Nat.zero_le _)).mono ?_; rintro e w' ⟨rfl, hg⟩)))
  go_wp2_with fail
  obtain ⟨s0, s1, s2, s3, s4⟩ : (w'.cell? ⟨w.heap.size, 0, none⟩ = some (.int .i64 a0x) ∧ w'.cell? ⟨w.heap.size, 1, none⟩ = some (.int .i64 a0y) ∧ w'.cell? ⟨w.heap.size + 1, 0, none⟩ = some (.int .i64 a1x) ∧ w'.cell? ⟨w.heap.size + 1, 1, none⟩ = some (.int .i64 a1y) ∧ w.grownBy w' none) := by assumption
  go_region_held3 (fun w' => w'.cell? ⟨w.heap.size, 0, none⟩ = some (.int .i64 a0x) ∧ w'.cell? ⟨w.heap.size, 1, none⟩ = some (.int .i64 a0y) ∧
      w'.cell? ⟨w.heap.size + 1, 0, none⟩ = some (.int .i64 a1x) ∧ w'.cell? ⟨w.heap.size + 1, 1, none⟩ = some (.int .i64 a1y) ∧ w.grownBy w' none)
    (first
      | (go_split_ands
         exact ⟨hg.cell (by assumption) (by simp), hg.cell (by assumption) (by simp), hg.cell (by assumption) (by simp), hg.cell (by assumption) (by simp), World.grownBy.trans (by assumption) hg⟩)
      | exact ⟨s0, s1, s2, s3, ⟨s4.os, s4.tape, s4.output, s4.size, s4.block⟩⟩)
    ((first
      | (go_at_call 21; refine (to_dir _ _ _).mono ?_; rintro e w' ⟨rfl, hg⟩)
      | (go_at_call 22; refine (impl_c 0 _ _ _ _ _ (Nat.zero_le _)).mono ?_; rintro e w' ⟨rfl, hg⟩)))
  obtain ⟨_, _, _, _, hfin⟩ : (w'.cell? ⟨w.heap.size, 0, none⟩ = some (.int .i64 a0x) ∧ w'.cell? ⟨w.heap.size, 1, none⟩ = some (.int .i64 a0y) ∧ w'.cell? ⟨w.heap.size + 1, 0, none⟩ = some (.int .i64 a1x) ∧ w'.cell? ⟨w.heap.size + 1, 1, none⟩ = some (.int .i64 a1y) ∧ w.grownBy w' none) := by assumption
  go_wp2_with fail
  go_ret
  exact ⟨rfl, gb_below hfin⟩

set_option maxRecDepth 100000 in
theorem lifted (os : Os) (started : os.Started) (H : Type) (enc : TypeId × Value → H) :
    ReturnsInHanded {} Try.checked os 4 .any (Rows.fnExactSwitchTicksSpec.pre6 enc Try.prog Try.f4 Rows.fnExactSwitchTicksRow.domain false) (Rows.fnExactSwitchTicksSpec.post enc Try.prog Try.f4 false true false false) := by
  refine returnsInHanded_of_change (C := Try.checked) own started (by kernel_rfl) Try.func4
    (ChangeSpec.witness6 (enc := enc) (C := Try.checked) false ⟨#[], #[.agg #[.int .i64 0, .int .i64 0], .agg #[.int .i64 0, .int .i64 0]], []⟩ 8 (by kernel_rfl) (by kernel_rfl) (by kernel_rfl) (by kernel_rfl)) ?_
  intro W base args ds gs before hval0 hW hcnd _
  have hval : ∀ (j : Nat) t v, Try.f4.params[j]? = some t → args[j]? = some v → Value.okWide Try.prog W .any base t v := hval0
  have hW' := hW
  obtain ⟨p, q, hA0, hV, rfl, hfz, hnd⟩ := hW
  have hA : DataW.TrodAll enc Try.prog W 0 (fun _ => true) true Try.f4.params.toList args.toList ds p := hA0
  rw [Try.params4] at hA hval
  obtain ⟨v0, vs0, d0, ds0, p0, q0, hargs, rfl, rfl, h0, r0⟩ := trodAll_cons hA
  obtain ⟨v1, vs1, d1, ds1, p1, q1, rfl, rfl, rfl, h1, r1⟩ := trodAll_cons r0
  obtain ⟨rfl, rfl, rfl⟩ := trodAll_nil r1
  obtain rfl : args = #[v0, v1] := by cases args; simp_all
  obtain ⟨rfl, rfl⟩ := trodVars_none hV
  obtain ⟨a0x, a0y, rfl, rfl, rfl, w0x, w0y⟩ := opened_pair Try.underlying30 (by kernel_rfl) (by kernel_rfl) Try.underlying2 Try.underlying2 (hval 0 30 v0 rfl rfl) h0
  obtain ⟨a1x, a1y, rfl, rfl, rfl, w1x, w1y⟩ := opened_pair Try.underlying30 (by kernel_rfl) (by kernel_rfl) Try.underlying2 Try.underlying2 (hval 1 30 v1 rfl rfl) h1
  clear hA0 hval0
  refine (walk a0x a0y a1x a1y W w0x w0y w1x w1y).mono fun e W' ⟨he, bel⟩ => ?_
  subst he
  exact ⟨_, rfl, _, _, _, [], _, [], hW', trodAll_mk1 (shut_bool Try.underlying4 _), (trodAll_cons_mk (shut_pair Try.underlying30 (by kernel_rfl) (by kernel_rfl) Try.underlying2 Try.underlying2 w0x w0y) (trodAll_cons_mk (shut_pair Try.underlying30 (by kernel_rfl) (by kernel_rfl) Try.underlying2 Try.underlying2 w1x w1y) trodAll_mk0)), rfl, bel.frame _, fun h => by cases h⟩

set_option maxHeartbeats 8000000 in
theorem over : Rows.fnExactSwitchTicksRow.holds Try.pinned (OpenSpec.ofChange Rows.fnExactSwitchTicksSpec) :=
  OpenClaim.holds_of_wide 4 Try.f4 rfl rfl rfl rfl rfl rfl rfl ⟨rfl, rfl, rfl, rfl, rfl⟩ rfl rfl rfl rfl rfl (by as_aux_lemma => kernel_rfl) Try.func4 (by as_aux_lemma => kernel_rfl)
    (of_decide_eq_true (by as_aux_lemma => kernel_rfl)) (by unfold Func.isWrapper; first | (rw [if_pos (by decide +kernel)]; kernel_rfl) | (rw [if_neg (by decide +kernel)]; exact ⟨rfl, rfl⟩))
    (fun os started H enc _ => lifted os started H enc)

theorem proved : Rows.FnExactSwitchTicksSaid := over
#print axioms proved
end Go.Proofs.Ytkjmlpdbnnmlhaa.switchTicks
