/- The differences that no marks have, by the model. -/
import Derived.Test.YtpeclgfopincbaaRows
import Derived.Test.YtpeclgfopincbaaSlc
import Derived.Test.YtpeclgfopincbaaSmall
import Derived.Test.YtpeclgfopincbaaListI
import Derived.Test.YtpeclgfopincbaaMarks
import Derived.Test.YtpeclgfopincbaaPut
import Derived.Test.YtpeclgfopincbaaDiff
import Derived.WalkKit
import Derived.ProofKit
import Derived.OpenShut
import Derived.ShutString
import Derived.ChangeOld
import Derived.Below
import Derived.Lib.Hide
import Derived.BigQuiet
import Derived.Deep.QuietTactic
import Derived.WalkLawsBesides
import Derived.Outline
import Derived.Deep.QuietTactic
import Derived.BigQuiet
import Derived.Deep.LoopGhost
namespace Go.Proofs.Ytpeclgfopincbaa.holes
open Go.ChangeShapes Go.WideShapes Go.ChangeAt Go.RowKit
open Go.ChangeMaps (open_string shut_string)
set_option linter.unusedVariables false
open Go Go.RowKit
open Go.Proofs.Ytpeclgfopincbaa.slc Go.Proofs.Ytpeclgfopincbaa.small Go.Proofs.Ytpeclgfopincbaa.listI Go.Proofs.Ytpeclgfopincbaa.marks Go.Proofs.Ytpeclgfopincbaa.put Go.Proofs.Ytpeclgfopincbaa.diff

/-- All differences. -/
def D (xs : List Int) : List Int := dl xs xs.length 0
/-- The greatest one. -/
def top (xs : List Int) : Int := xs.getD (xs.length - 1) 0 - xs.getD 0 0
theorem rises_le {xs : List Int} (h : xs.Pairwise (· < ·)) (a b : Nat) (ha : a < xs.length) (hb : b < xs.length) (hab : a ≤ b) : xs[a] ≤ xs[b] := by
  rcases Nat.lt_or_eq_of_le hab with hlt | rfl
  · have := (List.pairwise_iff_getElem.1 h) a b ha hb hlt; omega
  · exact Int.le_refl _
theorem D_mem {xs : List Int} (y : Int) : y ∈ D xs ↔ ∃ a b, a < xs.length ∧ b ≤ a ∧ y = dif xs a b := by unfold D; rw [dl_mem, pd_mem]
theorem D_bd {xs : List Int} (hv : mB xs = true) (y : Int) (hy : y ∈ D xs) : 0 ≤ y ∧ y ≤ top xs := by
  obtain ⟨h1, h2, h3, h4⟩ := mB_yes hv
  obtain ⟨a, b, ha, hb, rfl⟩ := (D_mem y).1 hy
  rw [dif_at xs a b ha (by omega)]
  have e1 := rises_le h4 b a (by omega) ha hb
  have e2 := rises_le h4 a (xs.length - 1) ha (by omega) (by omega)
  have e3 := rises_le h4 0 b (by omega) (by omega) (by omega)
  have e4 : top xs = xs[xs.length - 1] - xs[0] := by simp [top, List.getD, show xs.length - 1 < xs.length by omega, show 0 < xs.length by omega]
  omega
theorem top_mem {xs : List Int} (hv : mB xs = true) : top xs ∈ D xs := by
  obtain ⟨h1, _⟩ := mB_yes hv
  exact (D_mem _).2 ⟨xs.length - 1, 0, by omega, by omega, rfl⟩
theorem top_bd {xs : List Int} (hv : mB xs = true) : 0 ≤ top xs ∧ top xs ≤ 4096 := by
  obtain ⟨h1, h2, h3, h4⟩ := mB_yes hv
  have e4 : top xs = xs[xs.length - 1] - xs[0] := by simp [top, List.getD, show xs.length - 1 < xs.length by omega, show 0 < xs.length by omega]
  have a := h3 xs[xs.length - 1] (List.getElem_mem (by omega))
  have b := h3 xs[0] (List.getElem_mem (by omega))
  have c := (D_bd hv _ (top_mem hv)).1
  omega
theorem D_last {xs : List Int} (hv : mB xs = true) : 0 < (D xs).length ∧ ∀ h : (D xs).length - 1 < (D xs).length, (D xs)[(D xs).length - 1] = top xs := by
  obtain ⟨i, hi, he⟩ := List.mem_iff_getElem.1 (top_mem hv)
  refine ⟨by omega, fun h => ?_⟩
  have e1 := rises_le (dl_rises xs xs.length 0) i ((D xs).length - 1) hi h (by omega)
  have e2 := (D_bd hv _ (List.getElem_mem h)).2
  have e3 : (D xs)[i] ≤ (D xs)[(D xs).length - 1] := e1
  omega
/-- The numbers before k that are no differences. -/
def hl (L : List Int) (k : Nat) : List Int := ((List.range k).map fun i : Nat => (i : Int)).filter fun y => decide (y ∉ L)
theorem hl_in {L : List Int} {k : Nat} (h : (k : Int) ∈ L) : hl L (k + 1) = hl L k := by
  unfold hl; rw [List.range_succ, List.map_append, List.filter_append]; simp [h]
theorem hl_out {L : List Int} {k : Nat} (h : (k : Int) ∉ L) : hl L (k + 1) = hl L k ++ [(k : Int)] := by
  unfold hl; rw [List.range_succ, List.map_append, List.filter_append]; simp [h]
theorem hl_len (L : List Int) (k : Nat) : (hl L k).length ≤ k := by
  unfold hl; exact Nat.le_trans (List.length_filter_le _ _) (by simp)
/-- The holes. -/
def H (xs : List Int) : List Int := hl (D xs) (top xs).toNat

theorem D_c (A : Option Addr) (c B : Nat) (xs : List Int) (w : World) (hv : mB xs = true) (hr : Rd w B A xs.length (fun j => (ints xs).getD j undef)) (hB : B ≤ w.heap.size) :
    Calls Try.prog 237 #[.slice A xs.length c] w fun e w' => ∃ A' c', e = .returned (.slice A' (D xs).length c') ∧ w'.ownsRow w.heap.size 2 1 (.slice A' (D xs).length c') (D xs).length (ints (D xs)) ∧ w.grownBy w' none ∧ (D xs).length ≤ 272 :=
  dl_c A c B xs w hv hr hB

set_option maxHeartbeats 1000000 in
set_option maxRecDepth 100000 in
theorem holes_spec (A : Option Addr) (c B : Nat) (xs : List Int) (w : World) (hv : mB xs = true) (hr : Rd w B A xs.length (fun j => (ints xs).getD j undef)) (hB : B ≤ w.heap.size) :
    Calls Try.prog 193 #[.slice A xs.length c] w fun e w' => ∃ A' c', e = .returned (.slice A' (H xs).length c') ∧ w'.ownsRow w.heap.size 2 1 (.slice A' (H xs).length c') (H xs).length (ints (H xs)) ∧ w.grownBy w' none := by
  obtain ⟨i0, hi0, hz0, hz1, hz2⟩ := info_parts info64
  obtain ⟨t1, t2⟩ := top_bd hv
  obtain ⟨d0, dlast⟩ := D_last hv
  have hdl := dlast (by omega)
  have hris : (D xs).Pairwise (· < ·) := dl_rises xs xs.length 0
  have HRIS := Lib.hid hris
  have HDL := Lib.hid hdl
  have HV := Lib.hid hv
  clear hris hdl dlast hv
  go_enter Try.func193, Try.ntmps193
  go_wp2_with fail
  refine (D_c A c B xs w HV.out hr hB).mono ?_
  rintro e w1 ⟨A1, c1, rfl, ho1, hg1, hlen⟩
  have R1 := Rd.of_own ho1 (Nat.mul_one _).symm
  have hsz1 := hg1.size
  go_wp2_with fail
  go_loopw [4, 5, 6] (fun v a n wr => ∃ (k j : Nat), (k : Int) ≤ top xs ∧ n = .int .i64 k ∧ a = .int .i64 j ∧ j < (D xs).length ∧ (∀ i (hi : i < (D xs).length), i < j → (D xs)[i] < (k : Int)) ∧ wr.ownsRow w1.heap.size 2 1 v (hl (D xs) k).length (ints (hl (D xs) k)) ∧ w1.grownBy wr none) (fun _ _ n _ => (top xs - intOf n).toNat)
  case atStart => exact ⟨0, 0, by omega, rfl, rfl, d0, fun i hi h => absurd h (by omega), World.ownsRow_lit w1 #[] 0 (Nat.le_refl _) (Nat.zero_le _) rfl, World.grownBy_alloc _ _ _⟩
  case round =>
    obtain ⟨k, j, hk, rfl, rfl, hj, hlow, hown, hg⟩ := hrel
    have HLOW := Lib.hid hlow
    clear hlow
    have hhl := hl_len (D xs) k
    obtain ⟨ad, e, _, hlast⟩ := (R1.kept0 hg (Nat.le_refl _)).at_ (show (D xs).length - 1 < (D xs).length by omega)
    subst e
    rw [ints_getD (D xs) ((D xs).length - 1) (by omega), HDL.out] at hlast
    by_cases hlt : (k : Int) < top xs
    · go_wp2_with fail
      go_loop [5] (fun a => ∃ j : Nat, a = .int .i64 j ∧ j < (D xs).length ∧ ∀ i (hi : i < (D xs).length), i < j → (D xs)[i] < (k : Int)) (fun a => (D xs).length - (intOf a).toNat)
      case atStart => exact ⟨j, rfl, hj, HLOW.out⟩
      case round =>
        obtain ⟨j', rfl, hj', hlow'⟩ := hrel
        have HL' := Lib.hid hlow'
        clear hlow'
        obtain ⟨ad', e', _, hcj⟩ := (R1.kept0 hg (Nat.le_refl _)).at_ hj'
        injection e' with e'
        subst e'
        rw [ints_getD (D xs) j' hj'] at hcj
        by_cases hless : (D xs)[j'] < (k : Int)
        · have hnl : j' + 1 < (D xs).length := by
            rcases Nat.lt_or_ge (j' + 1) (D xs).length with h | h
            · exact h
            · exfalso
              have e9 : j' = (D xs).length - 1 := by omega
              subst e9
              rw [HDL.out] at hless
              omega
          have hlow2 : ∀ i (hi : i < (D xs).length), i < j' + 1 → (D xs)[i] < (k : Int) := by
            intro i hi hlt'
            rcases Nat.lt_succ_iff_lt_or_eq.1 hlt' with h | rfl
            · exact HL'.out i hi h
            · exact hless
          have HL2 := Lib.hid hlow2
          clear hlow2
          go_wp2
          go_round
          case rel => exact ⟨j' + 1, by go_num, hnl, HL2.out⟩
          case measure => simp [intOf]; omega
        · by_cases heq : (D xs)[j'] = (k : Int)
          · have hin : (k : Int) ∈ D xs := by rw [← heq]; exact List.getElem_mem hj'
            have hh := hl_in hin
            have HH := Lib.hid hh
            have hq : ((D xs)[j'] != (k : Int)) = false := by simp [heq]
            have hge : ¬ (D xs)[j'] < (k : Int) := hless
            clear heq hh hin
            go_wp2_with fail
            go_roundw
            case rel => exact ⟨k + 1, j', by omega, by go_num, rfl, hj', fun i hi h => by have := HL'.out i hi h; omega, by rw [HH.out]; exact hown, hg⟩
            case measure => simp [intOf]; omega
          · have hout : (k : Int) ∉ D xs := by
              intro hm
              obtain ⟨i, hi, he⟩ := List.mem_iff_getElem.1 hm
              rcases Nat.lt_or_ge i j' with h | h
              · have := HL'.out i hi h; omega
              · have := rises_le HRIS.out j' i hj' hi h; omega
            have hh := hl_out hout
            have HH := Lib.hid hh
            have hq : ((D xs)[j'] != (k : Int)) = true := by simp [heq]
            have hbs := Nat.le_trans hg.size (show wr.heap.size ≤ (wr.alloc (.cells #[.int .i64 (k : Int)] 2)).heap.size by simp)
            clear heq hh hout
            go_wp2_with (at_builtin; refine wpList_append_own _ rfl _ _ 45 rfl w1.heap.size 2 i0 (.int .i64 0) 1 8 Try.underlying45 hi0 hz0 hz1 hz2 rfl (by decide) _ _ _ rfl (hown.alloc _) ⟨wr.heap.size, 0, none⟩ 1 1 [.int .i64 (k : Int)] rfl rfl (cell_one_new _ _ _) (int_one _ _) (by unfold maxLen; omega) (by omega) hbs ?_; intro v' w5 hown' hgrow _)
            go_roundw
            case rel => exact ⟨k + 1, j', by omega, by go_num, rfl, hj', fun i hi h => by have := HL'.out i hi h; omega, by rw [HH.out, List.length_append, ← ints_snoc]; exact hown', gb_own (hg.trans (World.grownBy_alloc _ _ _)) (hown.alloc _) (Nat.le_refl _) hgrow⟩
            case measure => simp [intOf]; omega
    · have hkt : (top xs).toNat = k := by omega
      have hH : hl (D xs) k = H xs := by unfold H; rw [hkt]
      rw [hH] at hown
      have hge : top xs ≤ (k : Int) := by omega
      obtain ⟨A', c', rfl⟩ := own_form hown
      clear hkt hH hlt hhl
      go_wp2_with fail
      go_ret
      exact ⟨_, _, rfl, own_mono hown hsz1, hg1.trans hg⟩

end Go.Proofs.Ytpeclgfopincbaa.holes
