/- Conjugates of a list, products of a list by a number: by the program. -/
import Derived.Test.YtkjmlpdbnnmlhabRows
import Derived.Test.YtkjmlpdbnnmlhabSlc
import Derived.Test.YtkjmlpdbnnmlhabSmall
import Derived.Test.YtkjmlpdbnnmlhabFloats
import Derived.Test.YtkjmlpdbnnmlhabRound
import Derived.Test.YtkjmlpdbnnmlhabValues
import Derived.Test.YtkjmlpdbnnmlhabConv
import Derived.Test.YtkjmlpdbnnmlhabFWalk
import Derived.Test.YtkjmlpdbnnmlhabFinWalk
import Derived.Test.YtkjmlpdbnnmlhabFloat2
import Derived.Test.YtkjmlpdbnnmlhabFloat3
import Derived.Test.YtkjmlpdbnnmlhabPhase
import Derived.Test.YtkjmlpdbnnmlhabSine
import Derived.Test.YtkjmlpdbnnmlhabPhasor
import Derived.Test.YtkjmlpdbnnmlhabListC
import Derived.Test.YtkjmlpdbnnmlhabSteerNum
import Derived.Test.YtkjmlpdbnnmlhabSineIn
import Derived.Test.YtkjmlpdbnnmlhabPolyNum
import Derived.Test.YtkjmlpdbnnmlhabPolyW
import Derived.WalkKit
import Derived.ProofKit
import Derived.OpenShut
import Derived.ShutString
import Derived.ChangeOld
import Derived.Below
import Derived.Lib.Hide
import Derived.BigQuiet
import Derived.Deep.QuietTactic
import Derived.WalkLawsBesides
import Derived.Outline
import Derived.Deep.LoopGhost
import Derived.Deep.QuietTactic
import Derived.BigQuiet
import Derived.Deep.RegionHeld3
import Derived.StillTailTactics
import Derived.Laws.ComplexArith
namespace Go.Proofs.Ytkjmlpdbnnmlhab.poly2
open Go.ChangeShapes Go.WideShapes Go.ChangeAt Go.RowKit
open Go.ChangeMaps (open_string shut_string)
set_option linter.unusedVariables false
open Go Ieee Go.RowKit
open Go.Proofs.Ytkjmlpdbnnmlhab.slc Go.Proofs.Ytkjmlpdbnnmlhab.small Go.Proofs.Ytkjmlpdbnnmlhab.floats Go.Proofs.Ytkjmlpdbnnmlhab.round Go.Proofs.Ytkjmlpdbnnmlhab.values Go.Proofs.Ytkjmlpdbnnmlhab.conv Go.Proofs.Ytkjmlpdbnnmlhab.fWalk Go.Proofs.Ytkjmlpdbnnmlhab.phase Go.Proofs.Ytkjmlpdbnnmlhab.sine Go.Proofs.Ytkjmlpdbnnmlhab.phasor Go.Proofs.Ytkjmlpdbnnmlhab.listC Go.Proofs.Ytkjmlpdbnnmlhab.sineIn Go.Proofs.Ytkjmlpdbnnmlhab.polyNum Go.Proofs.Ytkjmlpdbnnmlhab.polyW

theorem unary_fneg (k : FloatKind) (b : Nat) : Op.unary .neg (.float k b) = pure (.float k (Op.negFloat k b)) := rfl
attribute [local go_sem] unary_fneg
/-- The conjugate, as words. -/
def cj (x : Nat × Nat) : Nat × Nat := (x.1, Op.negFloat .f32 x.2)
theorem conj_impl (a b : Nat) (w : World) : Calls Try.prog 163 #[.complex .f32 a b] w fun e w' => e = .returned (.complex .f32 a (Op.negFloat .f32 b)) ∧ w' = w := by
  go_enter Try.func163, Try.ntmps163
  go_wp2
  go_ret
  exact ⟨rfl, rfl⟩
theorem conj_spec (a b : Nat) (w : World) : Calls Try.prog 266 #[.complex .f32 a b] w fun e w' => e = .returned (.complex .f32 a (Op.negFloat .f32 b)) ∧ w' = w := by
  go_enter Try.func266, Try.ntmps266
  go_wp2
  go_ret
  exact ⟨rfl, rfl⟩
theorem map_at (F : Nat × Nat → Nat × Nat) (l : List (Nat × Nat)) (j : Nat) (h : j < l.length) : (l.map F).getD j (0, 0) = F (l.getD j (0, 0)) := by
  simp [List.getD, h]
theorem mix_map (F : Nat × Nat → Nat × Nat) (l : List (Nat × Nat)) (z : Nat → Value) (j : Nat) (h : j < l.length) :
    (lst (mix (ccell (l.map F)) z j) l.length).set j (.complex .f32 (F (l.getD j (0, 0))).1 (F (l.getD j (0, 0))).2) = lst (mix (ccell (l.map F)) z (j + 1)) l.length := by
  have e : ccell (l.map F) j = .complex .f32 (F (l.getD j (0, 0))).1 (F (l.getD j (0, 0))).2 := by
    unfold ccell
    rw [map_at F l j h]
  rw [← e, mix_set _ _ _ _ h]

attribute [local go_sem] run_store_complex
set_option maxHeartbeats 2000000 in
set_option maxRecDepth 100000 in
theorem conjs_impl (A : Option Addr) (c B : Nat) (l : List (Nat × Nat)) (w : World) (hn : l.length ≤ 16) (hr : Rd w B A l.length (ccell l)) (hB : B ≤ w.heap.size) :
    Calls Try.prog 183 #[.slice A l.length c] w fun e w' => ∃ A' c', e = .returned (.slice A' l.length c') ∧ w'.ownsRow w.heap.size 71 1 (.slice A' l.length c') l.length (lst (ccell (l.map cj)) l.length) ∧ w.grownBy w' none := by
  obtain ⟨i0, hi0, hz0, hz1, hz2⟩ := info_parts infoC
  go_enter Try.func183, Try.ntmps183
  go_wp2_with (at_make; refine wpList_make_full _ rfl _ _ _ rfl w.heap.size 71 i0 (.complex .f32 0 0) 1 Try.underlying68 hi0 hz0 hz1 _ _ _ _ l.length rfl rfl rfl rfl (by rw [hz2]; omega) (by unfold maxLen; omega) (Nat.le_refl _) ?_; intro w4 hown4 hg4)
  go_loopw [11] (fun i wr => ∃ j : Nat, j ≤ l.length ∧ i = .int .i64 j ∧ wr.ownsRow w.heap.size 71 1 (.slice (some ⟨w.heap.size, 0, none⟩) l.length l.length) l.length (lst (mix (ccell (l.map cj)) (fun _ => .complex .f32 0 0) j) l.length) ∧ w.grownBy wr none) (fun i _ => l.length - (intOf i).toNat)
  case atStart =>
    refine ⟨0, Nat.zero_le _, rfl, ?_, hg4⟩
    rw [mix_zero, ← replicate_lst]
    rw [Nat.mul_one] at hown4
    exact (toList_madeCells_one (.complex .f32 0 0) l.length) ▸ hown4
  case round =>
    obtain ⟨j, hj, rfl, hown, hg⟩ := hrel
    by_cases hlt : j < l.length
    · obtain ⟨ad, rfl, _, hc1⟩ := (hr.kept0 hg hB).at_ hlt
      unfold ccell at hc1
      have hmx := mix_map cj l (fun _ => .complex .f32 0 0) j hlt
      unfold cj at hmx
      dsimp only at hmx
      have HMX := Lib.hid hmx
      clear hmx
      generalize (l.getD j (0, 0)).1 = a1 at *
      generalize (l.getD j (0, 0)).2 = a2 at *
      have k0 : (0 : Int) ≤ j := by omega
      have k1 : (j : Int) < l.length := by omega
      go_wp2_with fail
      refine (conj_impl _ _ _).mono ?_
      rintro e w5 ⟨rfl, rfl⟩
      generalize Op.negFloat .f32 a2 = q at *
      have hcell5 := hown.cellAt j (by omega)
      rw [lst_get _ _ _ hlt] at hcell5
      have hm5 : mix (ccell (l.map cj)) (fun _ => Value.complex .f32 0 0) j j = .complex .f32 0 0 := by unfold mix; rw [if_neg (Nat.lt_irrefl _)]
      rw [hm5] at hcell5
      have hf5 := hown.frozenAt j
      obtain ⟨hs1, hs2⟩ := hown.stored j (.complex .f32 a1 q)
      have hmx := HMX.out
      unfold cj at hs1
      rw [hmx] at hs1
      have hs2' := gb_new hg hs2 (by intro g e; injection e with e; omega)
      have HS4 := Lib.hid hs1
      have HG4 := Lib.hid hs2'
      clear hs1 hs2' hs2 hown hg hm5 hc1 hmx
      go_wp2
      go_roundw
      case rel => exact ⟨j + 1, by omega, by go_num, HS4.out, HG4.out⟩
      case measure => simp [intOf]; omega
    · obtain rfl : j = l.length := by omega
      go_wp2_with fail
      go_ret
      refine ⟨_, _, rfl, ?_, hg⟩
      rw [← mix_full]
      exact hown

set_option maxHeartbeats 2000000 in
set_option maxRecDepth 100000 in
theorem prods_impl (A : Option Addr) (c B : Nat) (l : List (Nat × Nat)) (z : Nat × Nat) (w : World) (hn : l.length ≤ 16) (hm : ∀ j, j < l.length → MulOk (l.getD j (0, 0)) z) (hr : Rd w B A l.length (ccell l)) (hB : B ≤ w.heap.size) :
    Calls Try.prog 200 #[.slice A l.length c, .complex .f32 z.1 z.2, .func (.func 99) #[] #[]] w fun e w' => ∃ A' c', e = .returned (.slice A' l.length c') ∧ w'.ownsRow w.heap.size 71 1 (.slice A' l.length c') l.length (lst (ccell (l.map fun x => mulw x z)) l.length) ∧ w.grownBy w' none := by
  obtain ⟨i0, hi0, hz0, hz1, hz2⟩ := info_parts infoC
  have HM := Lib.hid hm
  clear hm
  go_enter Try.func200, Try.ntmps200
  go_wp2_with (at_make; refine wpList_make_full _ rfl _ _ _ rfl w.heap.size 71 i0 (.complex .f32 0 0) 1 Try.underlying68 hi0 hz0 hz1 _ _ _ _ l.length rfl rfl rfl rfl (by rw [hz2]; omega) (by unfold maxLen; omega) (Nat.le_refl _) ?_; intro w4 hown4 hg4)
  go_loopw [15] (fun i wr => ∃ j : Nat, j ≤ l.length ∧ i = .int .i64 j ∧ wr.ownsRow w.heap.size 71 1 (.slice (some ⟨w.heap.size, 0, none⟩) l.length l.length) l.length (lst (mix (ccell (l.map fun x => mulw x z)) (fun _ => .complex .f32 0 0) j) l.length) ∧ w.grownBy wr none) (fun i _ => l.length - (intOf i).toNat)
  case atStart =>
    refine ⟨0, Nat.zero_le _, rfl, ?_, hg4⟩
    rw [mix_zero, ← replicate_lst]
    rw [Nat.mul_one] at hown4
    exact (toList_madeCells_one (.complex .f32 0 0) l.length) ▸ hown4
  case round =>
    obtain ⟨j, hj, rfl, hown, hg⟩ := hrel
    by_cases hlt : j < l.length
    · obtain ⟨ad, rfl, _, hc1⟩ := (hr.kept0 hg hB).at_ hlt
      unfold ccell at hc1
      have HMX := Lib.hid (mix_map (fun x => mulw x z) l (fun _ => .complex .f32 0 0) j hlt)
      have hmq := fun w => (mul_impl (HM.out j hlt) w).mono fun e w' h => (⟨h.1, h.2.symm⟩ : _ ∧ w' = w)
      have MQ := Lib.hid hmq
      clear hmq
      generalize l.getD j (0, 0) = u at *
      generalize mulw u z = m at *
      have k0 : (0 : Int) ≤ j := by omega
      have k1 : (j : Int) < l.length := by omega
      go_wp2_with fail
      refine (MQ.out _).mono ?_
      rintro e w5 ⟨rfl, rfl⟩
      have hcell5 := hown.cellAt j (by omega)
      rw [lst_get _ _ _ hlt] at hcell5
      have hm5 : mix (ccell (l.map fun x => mulw x z)) (fun _ => Value.complex .f32 0 0) j j = .complex .f32 0 0 := by unfold mix; rw [if_neg (Nat.lt_irrefl _)]
      rw [hm5] at hcell5
      have hf5 := hown.frozenAt j
      obtain ⟨hs1, hs2⟩ := hown.stored j (.complex .f32 m.1 m.2)
      rw [HMX.out] at hs1
      have hs2' := gb_new hg hs2 (by intro g e; injection e with e; omega)
      have HS4 := Lib.hid hs1
      have HG4 := Lib.hid hs2'
      clear hs1 hs2' hs2 hown hg hm5 hc1
      go_wp2
      go_roundw
      case rel => exact ⟨j + 1, by omega, by go_num, HS4.out, HG4.out⟩
      case measure => simp [intOf]; omega
    · obtain rfl : j = l.length := by omega
      go_wp2_with fail
      go_ret
      refine ⟨_, _, rfl, ?_, hg⟩
      rw [← mix_full]
      exact hown

end Go.Proofs.Ytkjmlpdbnnmlhab.poly2
