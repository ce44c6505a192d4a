/- Two lists of 32-bit numbers laid together. -/
import Derived.Test.YtkjmlpdbnnmlhabRows
import Derived.Test.YtkjmlpdbnnmlhabSlc
import Derived.Test.YtkjmlpdbnnmlhabFloatAll
import Derived.Test.YtkjmlpdbnnmlhabFWalk
import Derived.Test.YtkjmlpdbnnmlhabListF
import Derived.WalkKit
import Derived.ProofKit
import Derived.OpenShut
import Derived.ShutString
import Derived.ChangeOld
import Derived.Below
import Derived.Lib.Hide
import Derived.BigQuiet
import Derived.Deep.QuietTactic
import Derived.WalkLawsBesides
import Derived.Outline
import Derived.Deep.LoopGhost
import Derived.Deep.RegionHeld3
import Derived.Lib.AppendZerosOnto
import Derived.Lib.Walk
import Derived.Lib.SliceRun
namespace Go.Proofs.Ytkjmlpdbnnmlhab.concatF
open Go.ChangeShapes Go.WideShapes Go.ChangeAt Go.RowKit
open Go.ChangeMaps (open_string shut_string)
set_option linter.unusedVariables false
open Go Ieee Go.RowKit
open Go.Proofs.Ytkjmlpdbnnmlhab.slc Go.Proofs.Ytkjmlpdbnnmlhab.listF


set_option maxRecDepth 100000 in
theorem grow_nil (n : Nat) (h0 : 0 < n) (h1 : n ≤ 100000) (w : World) :
    Calls Try.prog 232 #[.slice none 0 0, .int .i64 n] w fun e w' => ∃ c, e = .returned (.slice (some ⟨w.heap.size, 0, none⟩) 0 c) ∧ w'.ownsRow w.heap.size 61 1 (.slice (some ⟨w.heap.size, 0, none⟩) 0 c) 0 [] ∧ w.grownBy w' none := by
  obtain ⟨i0, hi0, hz0, hz1, hz2⟩ := info_parts info32
  have hold : (Builtin.firstCells i0.size 0 (.slice none 0 0)).run Try.prog w.drew = .ok #[] w.drew := run_firstCells_none w.drew i0.size 0 0 0
  have hrz : ∀ ty, (Builtin.append_ #[58, 3] ty #[.slice none 0 0, .int .i64 n]).run Try.prog w = .ok (.slice (some ⟨w.heap.size, 0, none⟩) n (grownCap w n 0 61)) (w.drew.alloc (.cells (#[] ++ Builtin.zeroCells (.float .f32 0 : Value).cells n ++ Builtin.zeroCells (.float .f32 0 : Value).cells (grownCap w n 0 61 - n)) 61)) := fun ty => by
    have h := Lib.run_append_grow_zeros w 58 3 ty 61 i0 (.float .f32 0) .i64 .i64 Try.underlying58 Try.underlying3 hi0 hz0 none 0 0 [] hold n h0 (by rw [hz1]; decide) (by omega) (by omega) (by rw [hz2]; omega) (growslice_fits (by omega) (by rw [hz2]; omega))
    simpa using h
  have hge : n ≤ grownCap w n 0 61 := grownCap_ge w _ _ _
  have hle := grownCap_le_maxLen w n 0 61 (by unfold maxLen; omega)
  generalize grownCap w n 0 61 = c at *
  have hc63 : c ≤ 9223372036854775807 := by unfold maxLen at hle; omega
  have n0 : (0 : Int) < n := by omega
  go_enter Try.func232, Try.ntmps232
  go_wp2_with (at_builtin; refine Lib.wpList_append_run _ rfl _ _ _ _ rfl _ _ rfl rfl _ _ (hrz _) ?_)
  all_goals
    go_ret
    refine ⟨c, rfl, ⟨rfl, .inr ⟨w.heap.size, c, _, rfl, Nat.le_refl _, heap_alloc_new w.drew _, Nat.zero_le _, hle, ?_, by simp⟩⟩, ?_⟩
    · simp [size_zeroCells]; omega
    · exact (gb_drewN w 1 none).trans (World.grownBy_alloc _ _ _)
theorem grow_zero (w : World) : Calls Try.prog 232 #[.slice none 0 0, .int .i64 0] w fun e w' => e = .returned (.slice none 0 0) ∧ w = w' := by
  go_enter Try.func232, Try.ntmps232
  go_wp2
  go_ret
  exact ⟨rfl, rfl⟩

def cat (f g : Nat → Value) (n : Nat) (j : Nat) : Value := if j < n then f j else g (j - n)
theorem cat_all (f g : Nat → Value) (n m : Nat) : lst (cat f g n) n ++ lst g m = lst (cat f g n) (n + m) := by
  apply List.ext_getElem?
  intro i
  by_cases h1 : i < n
  · rw [List.getElem?_append_left (by rw [lst_len]; exact h1), lst_get _ _ _ h1, lst_get _ _ _ (by omega)]
  · rw [List.getElem?_append_right (by rw [lst_len]; omega), lst_len]
    by_cases h2 : i < n + m
    · rw [lst_get _ _ _ (by omega), lst_get _ _ _ h2]
      unfold cat; rw [if_neg h1]
    · rw [List.getElem?_eq_none (by rw [lst_len]; omega), List.getElem?_eq_none (by rw [lst_len]; omega)]
theorem cat_left (f g : Nat → Value) (n : Nat) : lst (cat f g n) n = lst f n := lst_congr fun j hj => by unfold cat; rw [if_pos hj]
def szk (n m k : Nat) : Nat := if k = 0 then 0 else if k = 1 then n else n + m
theorem rd_cells {w : World} {B n : Nat} {ad : Addr} {f : Nat → Value} (h : Rd w B (some ad) n f) : ∀ j u, (lst f n)[j]? = some u → w.cell? (ad.add j) = some u := by
  intro j u hu
  by_cases hj : j < n
  · rw [lst_get _ _ _ hj] at hu
    obtain ⟨ad', e, _, hc⟩ := h.at_ hj
    injection e with e; subst e
    rw [hc]; exact hu
  · rw [List.getElem?_eq_none (by rw [lst_len]; omega)] at hu
    exact absurd hu (by simp)
set_option maxHeartbeats 1600000 in
set_option maxRecDepth 100000 in
theorem concat2 (ad ad' : Addr) (n m c d b B : Nat) (f g : Nat → Value) (w : World) (hn : n + m ≤ 1000) (hf1 : ∀ u ∈ lst f n, u.oneCell' = true) (hg1 : ∀ u ∈ lst g m, u.oneCell' = true)
    (c0 : w.cell? ⟨b, 0, none⟩ = some (.slice (some ad) n c)) (c1 : w.cell? ⟨b, 1, none⟩ = some (.slice (some ad') m d)) (hB : B ≤ w.heap.size) (ha : Rd w B (some ad) n f) (hb : Rd w B (some ad') m g) :
    Calls Try.prog 144 #[.slice (some ⟨b, 0, none⟩) 2 2] w fun e w' => ∃ A' c', e = .returned (.slice A' (n + m) c') ∧ w'.ownsRow w.heap.size 61 1 (.slice A' (n + m) c') (n + m) (lst (cat f g n) (n + m)) ∧ w.grownBy w' none := by
  obtain ⟨i0, hi0, hz0, hz1, hz2⟩ := info_parts info32
  have k1 : ((⟨b, 0, none⟩ : Addr).add 1) = ⟨b, 1, none⟩ := rfl
  go_enter Try.func144, Try.ntmps144
  go_wp2_with fail
  go_loop [3, 11] (fun v i => ∃ k : Nat, k ≤ 2 ∧ i = .int .i64 k ∧ v = .int .i64 (szk n m k : Nat)) (fun _ i => 2 - (intOf i).toNat)
  case atStart => exact ⟨0, by omega, rfl, rfl⟩
  case round =>
    obtain ⟨k, hk, rfl, rfl⟩ := hrel
    obtain rfl | rfl | rfl : k = 0 ∨ k = 1 ∨ k = 2 := by omega
    · have e0 : szk n m 0 = 0 := rfl
      have e1 : szk n m 1 = n := rfl
      rw [e0]
      go_wp2_with fail
      go_round
      case rel => exact ⟨1, by omega, rfl, by rw [e1]⟩
      case measure => simp [intOf]
    · have e1 : szk n m 1 = n := rfl
      have e2 : szk n m 2 = n + m := rfl
      rw [e1]
      go_wp2_with fail
      go_round
      case rel => exact ⟨2, by omega, rfl, by rw [e2]; go_num⟩
      case measure => simp [intOf]
    · have e2 : szk n m 2 = n + m := rfl
      rw [e2]
      by_cases h0 : n + m = 0
      · have h0' : szk n m 0 = 0 := rfl
        have hz : lst (cat f g n) 0 = [] := rfl
        rw [h0]
        go_wp2_with fail
        refine (grow_zero _).mono ?_
        rintro e w' ⟨rfl, rfl⟩
        go_wp2_with fail
        go_loopw [6, 27] (fun v i wr => ∃ k : Nat, k ≤ 2 ∧ i = .int .i64 k ∧ wr.ownsRow w.heap.size 61 1 v (szk n m k) (lst (cat f g n) (szk n m k)) ∧ w.grownBy wr none) (fun _ i _ => 2 - (intOf i).toNat)
        case atStart => exact ⟨0, by omega, rfl, World.ownsRow_nil _ _ _ _, World.grownBy.refl _ _⟩
        case round =>
          obtain ⟨k, hk, rfl, hown, hg⟩ := hrel
          have d0 := hg.cell c0 (by simp)
          have d1 := hg.cell c1 (by simp)
          have hra := rd_cells (ha.kept0 hg hB)
          have hrb := rd_cells (hb.kept0 hg hB)
          obtain rfl | rfl | rfl : k = 0 ∨ k = 1 ∨ k = 2 := by omega
          · have e1 : lst (cat f g n) (szk n m 0) ++ lst f n = lst (cat f g n) (szk n m 1) := by
              show lst (cat f g n) 0 ++ lst f n = lst (cat f g n) n
              rw [cat_left]; rfl
            have e2 : szk n m 0 + n = szk n m 1 := by simp [szk]
            have E1 := Lib.hid e1
            have hsz : szk n m 0 ≤ 1000 := by simp [szk]
            clear e1
            generalize szk n m 0 = s0 at *
            go_wp2_with (at_builtin; refine wpList_append_own _ rfl _ _ 58 rfl w.heap.size 61 i0 (.float .f32 0) 1 4 Try.underlying58 hi0 hz0 hz1 hz2 rfl (by decide) _ _ _ rfl hown ad n c (lst f n) rfl (by rw [lst_len, Nat.mul_one]) hra hf1 (by unfold maxLen; omega) (by omega) hg.size ?_; intro v' w4 hown' hgrow _)
            go_roundw
            case rel => exact ⟨1, by omega, rfl, by rw [E1.out, e2] at hown'; exact hown', gb_own hg hown (Nat.le_refl _) hgrow⟩
            case measure => simp [intOf]
          · have e1 : lst (cat f g n) (szk n m 1) ++ lst g m = lst (cat f g n) (szk n m 2) := cat_all f g n m
            have e2 : szk n m 1 + m = szk n m 2 := by simp [szk]
            have E1 := Lib.hid e1
            have hsz : szk n m 1 ≤ 1000 := by simp [szk]; omega
            clear e1
            generalize szk n m 1 = s0 at *
            go_wp2_with (at_builtin; refine wpList_append_own _ rfl _ _ 58 rfl w.heap.size 61 i0 (.float .f32 0) 1 4 Try.underlying58 hi0 hz0 hz1 hz2 rfl (by decide) _ _ _ rfl hown ad' m d (lst g m) rfl (by rw [lst_len, Nat.mul_one]) hrb hg1 (by unfold maxLen; omega) (by omega) hg.size ?_; intro v' w4 hown' hgrow _)
            go_roundw
            case rel => exact ⟨2, by omega, rfl, by rw [E1.out, e2] at hown'; exact hown', gb_own hg hown (Nat.le_refl _) hgrow⟩
            case measure => simp [intOf]
          · have e2 : szk n m 2 = n + m := rfl
            rw [e2] at hown
            obtain ⟨A', c', rfl⟩ := own_form hown
            go_wp2_with fail
            go_ret
            exact ⟨_, _, rfl, hown, hg⟩

      · go_wp2_with fail
        refine (grow_nil (n + m) (by omega) (by omega) _).mono ?_
        rintro e w1 ⟨cc, rfl, hown1, hg1'⟩
        go_wp2_with fail
        go_loopw [6, 27] (fun v i wr => ∃ k : Nat, k ≤ 2 ∧ i = .int .i64 k ∧ wr.ownsRow w.heap.size 61 1 v (szk n m k) (lst (cat f g n) (szk n m k)) ∧ w.grownBy wr none) (fun _ i _ => 2 - (intOf i).toNat)
        case atStart => exact ⟨0, by omega, rfl, hown1, hg1'⟩
        case round =>
          obtain ⟨k, hk, rfl, hown, hg⟩ := hrel
          have d0 := hg.cell c0 (by simp)
          have d1 := hg.cell c1 (by simp)
          have hra := rd_cells (ha.kept0 hg hB)
          have hrb := rd_cells (hb.kept0 hg hB)
          obtain rfl | rfl | rfl : k = 0 ∨ k = 1 ∨ k = 2 := by omega
          · have e1 : lst (cat f g n) (szk n m 0) ++ lst f n = lst (cat f g n) (szk n m 1) := by
              show lst (cat f g n) 0 ++ lst f n = lst (cat f g n) n
              rw [cat_left]; rfl
            have e2 : szk n m 0 + n = szk n m 1 := by simp [szk]
            have E1 := Lib.hid e1
            have hsz : szk n m 0 ≤ 1000 := by simp [szk]
            clear e1
            generalize szk n m 0 = s0 at *
            go_wp2_with (at_builtin; refine wpList_append_own _ rfl _ _ 58 rfl w.heap.size 61 i0 (.float .f32 0) 1 4 Try.underlying58 hi0 hz0 hz1 hz2 rfl (by decide) _ _ _ rfl hown ad n c (lst f n) rfl (by rw [lst_len, Nat.mul_one]) hra hf1 (by unfold maxLen; omega) (by omega) hg.size ?_; intro v' w4 hown' hgrow _)
            go_roundw
            case rel => exact ⟨1, by omega, rfl, by rw [E1.out, e2] at hown'; exact hown', gb_own hg hown (Nat.le_refl _) hgrow⟩
            case measure => simp [intOf]
          · have e1 : lst (cat f g n) (szk n m 1) ++ lst g m = lst (cat f g n) (szk n m 2) := cat_all f g n m
            have e2 : szk n m 1 + m = szk n m 2 := by simp [szk]
            have E1 := Lib.hid e1
            have hsz : szk n m 1 ≤ 1000 := by simp [szk]; omega
            clear e1
            generalize szk n m 1 = s0 at *
            go_wp2_with (at_builtin; refine wpList_append_own _ rfl _ _ 58 rfl w.heap.size 61 i0 (.float .f32 0) 1 4 Try.underlying58 hi0 hz0 hz1 hz2 rfl (by decide) _ _ _ rfl hown ad' m d (lst g m) rfl (by rw [lst_len, Nat.mul_one]) hrb hg1 (by unfold maxLen; omega) (by omega) hg.size ?_; intro v' w4 hown' hgrow _)
            go_roundw
            case rel => exact ⟨2, by omega, rfl, by rw [E1.out, e2] at hown'; exact hown', gb_own hg hown (Nat.le_refl _) hgrow⟩
            case measure => simp [intOf]
          · have e2 : szk n m 2 = n + m := rfl
            rw [e2] at hown
            obtain ⟨A', c', rfl⟩ := own_form hown
            go_wp2_with fail
            go_ret
            exact ⟨_, _, rfl, hown, hg⟩

end Go.Proofs.Ytkjmlpdbnnmlhab.concatF
