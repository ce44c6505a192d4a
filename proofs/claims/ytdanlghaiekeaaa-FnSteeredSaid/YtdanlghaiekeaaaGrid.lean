/- Places in rows. -/
import Derived.Test.YtdanlghaiekeaaaRows
import Derived.Test.YtdanlghaiekeaaaSlc
import Derived.Test.YtdanlghaiekeaaaSmall
import Derived.Test.YtdanlghaiekeaaaOpens
import Derived.Test.YtdanlghaiekeaaaPlaces
import Derived.Test.YtdanlghaiekeaaaPlaceSet
import Derived.Test.YtdanlghaiekeaaaListP
import Derived.WalkKit
import Derived.ProofKit
import Derived.OpenShut
import Derived.ShutString
import Derived.ChangeOld
import Derived.Below
import Derived.Lib.Hide
import Derived.BigQuiet
import Derived.Deep.QuietTactic
import Derived.WalkLawsBesides
import Derived.Outline
import Derived.Deep.LoopGhost
import Derived.Laws.Tables
namespace Go.Proofs.Ytdanlghaiekeaaa.grid
open Go.ChangeShapes Go.WideShapes Go.ChangeAt Go.RowKit
open Go.ChangeMaps (open_string shut_string)
set_option linter.unusedVariables false
open Go Go.RowKit
open Go.Proofs.Ytdanlghaiekeaaa.slc Go.Proofs.Ytdanlghaiekeaaa.small Go.Proofs.Ytdanlghaiekeaaa.opens Go.Proofs.Ytdanlghaiekeaaa.places Go.Proofs.Ytdanlghaiekeaaa.placeSet Go.Proofs.Ytdanlghaiekeaaa.listP

attribute [local go_sem] build_place

theorem step_yes : True := trivial
theorem step_no : True := trivial

/-- Handed back if they are valid. -/
def given (ps : List (Int × Int)) : List (Int × Int) := if vp ps = true then ps else []
theorem given_len (ps : List (Int × Int)) : (given ps).length ≤ ps.length := by
  unfold given; split <;> simp

theorem give_spec : True := trivial

theorem give_impl (A : Option Addr) (c base : Nat) (ps : List (Int × Int)) (w : World) (hm : ps.length ≤ 9223372036854775807) (ho : w.ownsRow base 49 2 (.slice A ps.length c) ps.length (lst (pcell ps) (ps.length * 2))) :
    Calls Try.prog 104 #[.slice A ps.length c] w fun e w' => ∃ A' c', e = .returned (.tuple #[.slice A' (given ps).length c', .bool (vp ps)]) ∧ w'.ownsRow base 49 2 (.slice A' (given ps).length c') (given ps).length (lst (pcell (given ps)) ((given ps).length * 2)) ∧ w.grownBy w' none := by
  have R := Rd.of_lst ho rfl
  unfold given
  cases hv : vp ps
  · rw [if_neg (by simp)]
    go_enter Try.func104, Try.ntmps104
    go_wp2_with fail
    refine (is_impl A c _ ps w hm R (Nat.le_refl _)).mono ?_
    rintro e w1 ⟨rfl, hg1⟩
    go_wp2_with fail
    go_ret2
    exact ⟨none, 0, rfl, World.ownsRow_nil _ _ _ _, hg1⟩
  · rw [if_pos rfl]
    go_enter Try.func104, Try.ntmps104
    go_wp2_with fail
    refine (is_impl A c _ ps w hm R (Nat.le_refl _)).mono ?_
    rintro e w1 ⟨rfl, hg1⟩
    go_wp2_with fail
    go_ret2
    exact ⟨A, c, rfl, own_kept0 ho hg1, hg1⟩

/-- k whole rows and i places of the next one. -/
def gp (c : Nat) (dx dy : Int) (k i : Nat) : List (Int × Int) :=
  (List.range k).flatMap (fun r : Nat => (List.range c).map fun q : Nat => ((q : Int) * dx, (r : Int) * dy)) ++ (List.range i).map fun q : Nat => ((q : Int) * dx, (k : Int) * dy)
theorem gp_zero (c : Nat) (dx dy : Int) : gp c dx dy 0 0 = [] := rfl
theorem gp_next (c : Nat) (dx dy : Int) (k i : Nat) : gp c dx dy k (i + 1) = gp c dx dy k i ++ [((i : Int) * dx, (k : Int) * dy)] := by
  simp [gp, List.range_succ]
theorem gp_row (c : Nat) (dx dy : Int) (k : Nat) : gp c dx dy k c = gp c dx dy (k + 1) 0 := by
  simp [gp, List.range_succ]
theorem gp_len (c : Nat) (dx dy : Int) (k i : Nat) : (gp c dx dy k i).length = k * c + i := by
  induction k with
  | zero => simp [gp]
  | succ k ih =>
    have := ih
    simp only [gp, List.length_append, List.length_map, List.length_range, List.range_succ, List.flatMap_append, List.flatMap_cons, List.flatMap_nil, List.append_nil] at this ⊢
    rw [Nat.add_mul]
    omega
theorem prod16 (i : Nat) (d : Int) (hi : i ≤ 16) (h1 : -4096 ≤ d) (h2 : d ≤ 4096) : -65536 ≤ (i : Int) * d ∧ (i : Int) * d ≤ 65536 := by
  have a : (i : Int) * d ≤ (i : Int) * 4096 := Int.mul_le_mul_of_nonneg_left h2 (by omega)
  have b : (i : Int) * (-4096) ≤ (i : Int) * d := Int.mul_le_mul_of_nonneg_left h1 (by omega)
  omega
theorem len16 (c k i : Nat) (dx dy : Int) (h1 : c ≤ 16) (h2 : k ≤ 16) (h3 : i ≤ 16) : (gp c dx dy k i).length ≤ 272 := by
  rw [gp_len]
  have : k * c ≤ 16 * 16 := Nat.mul_le_mul h2 h1
  omega

set_option maxHeartbeats 800000 in
set_option maxRecDepth 100000 in
theorem grid_spec : True := trivial

set_option maxHeartbeats 800000 in
set_option maxRecDepth 100000 in
theorem grid_impl (c r : Nat) (dx dy : Int) (w : World) (h1 : 1 ≤ c) (h2 : c ≤ 16) (h3 : 1 ≤ r) (h4 : r ≤ 16) (h5 : -4096 ≤ dx) (h6 : dx ≤ 4096) (h7 : -4096 ≤ dy) (h8 : dy ≤ 4096) :
    Calls Try.prog 29 #[.int .i64 c, .int .i64 r, .int .i64 dx, .int .i64 dy] w fun e w' => ∃ A' c', e = .returned (.tuple #[.slice A' (given (gp c dx dy r 0)).length c', .bool (vp (gp c dx dy r 0))]) ∧
      w'.ownsRow w.heap.size 49 2 (.slice A' (given (gp c dx dy r 0)).length c') (given (gp c dx dy r 0)).length (lst (pcell (given (gp c dx dy r 0))) ((given (gp c dx dy r 0)).length * 2)) ∧ w.grownBy w' none := by
  obtain ⟨i0, hi0, hz0, hz1, hz2⟩ := info_parts infoP
  go_enter Try.func29, Try.ntmps29
  go_wp2_with (first
    | (go_at_call 88; refine (count_yes _ _ (by omega) (by omega)).mono ?_; rintro e w' ⟨rfl, rfl⟩)
    | (go_at_call 103; refine (offset_yes _ _ (by omega) (by omega)).mono ?_; rintro e w' ⟨rfl, rfl⟩))
  go_loopw [10, 32, 36] (fun v k _ wr => ∃ q : Nat, q ≤ r ∧ k = .int .i64 q ∧ wr.ownsRow w.heap.size 49 2 v (gp c dx dy q 0).length (lst (pcell (gp c dx dy q 0)) ((gp c dx dy q 0).length * 2)) ∧ w.grownBy wr none) (fun _ k _ _ => r - (intOf k).toNat)
  case atStart => exact ⟨0, Nat.zero_le _, rfl, World.ownsRow_nil _ _ _ _, World.grownBy.refl _ _⟩
  case round =>
    obtain ⟨q, hq, rfl, hown, hg⟩ := hrel
    have hl16 := len16 c q 0 dx dy h2 (by omega) (by omega)
    by_cases hlt : q < r
    · go_wp2_with fail
      obtain ⟨wo, rfl⟩ : ∃ wo : World, wo = wr := ⟨_, rfl⟩
      go_loopw [10, 36] (fun v j wi => ∃ i : Nat, i ≤ c ∧ j = .int .i64 i ∧ wi.ownsRow w.heap.size 49 2 v (gp c dx dy q i).length (lst (pcell (gp c dx dy q i)) ((gp c dx dy q i).length * 2)) ∧ w.grownBy wi none) (fun _ j _ => c - (intOf j).toNat)
      case atStart => exact ⟨0, Nat.zero_le _, rfl, hown, hg⟩
      case round =>
        obtain ⟨i, hi, rfl, hown, hg⟩ := hrel
        have hl16 := len16 c q i dx dy h2 (by omega) (by omega)
        by_cases hltc : i < c
        · have hp1 := prod16 i dx (by omega) h5 h6
          have hp2 := prod16 q dy (by omega) h7 h8
          have hb1 := hp1.1
          have hb2 := hp1.2
          have hb3 := hp2.1
          have hb4 := hp2.2
          clear hp1 hp2
          have hbs := Nat.le_trans hg.size (show wr.heap.size ≤ (wr.alloc (.cells #[.int .i64 ((i : Int) * dx), .int .i64 ((q : Int) * dy)] 49)).heap.size by simp)
          have hs := pcell_snoc (gp c dx dy q i) ((i : Int) * dx) ((q : Int) * dy)
          rw [← gp_next] at hs
          have hln : (gp c dx dy q (i + 1)).length = (gp c dx dy q i).length + 1 := by rw [gp_next]; simp
          have HS := Lib.hid hs
          have HL := Lib.hid hln
          clear hs hln
          go_wp2_with (at_builtin; refine wpList_append_own _ rfl _ _ 36 rfl w.heap.size 49 i0 (.agg #[.int .i64 0, .int .i64 0]) 2 16 Try.underlying36 hi0 hz0 hz1 hz2 rfl (by decide) _ _ _ rfl (hown.alloc _) ⟨wr.heap.size, 0, none⟩ 1 1 [.int .i64 ((i : Int) * dx), .int .i64 ((q : Int) * dy)] rfl rfl (World.news_of_block (heap_alloc_new _ _)) (pair_one _ _) (by unfold maxLen; omega) (by omega) hbs ?_; intro v' w1 hown' hgrow _)
          go_roundw
          case rel =>
            refine ⟨i + 1, by omega, by go_num, ?_, ?_⟩
            · rw [HS.out, HL.out]; exact hown'
            · exact gb_own (hg.trans (World.grownBy_alloc _ _ _)) (hown.alloc _) (Nat.le_refl _) hgrow
          case measure => simp [intOf]; omega
        · obtain rfl : i = c := by omega
          rw [gp_row] at hown
          go_wp2
          go_roundw
          case rel => exact ⟨q + 1, by omega, by go_num, hown, hg⟩
          case measure => simp [intOf]; omega
    · obtain rfl : q = r := by omega
      obtain ⟨A, cc, rfl⟩ := own_form hown
      go_wp2_with fail
      refine (give_impl _ _ _ _ _ (by omega) hown).mono ?_
      rintro e w1 ⟨A', c', rfl, ho', hg'⟩
      go_wp2_with fail
      go_ret2
      exact ⟨_, _, rfl, ho', hg.trans hg'⟩

theorem grid_spec_no : True := trivial

theorem grid_impl_no (c r dx dy : Int) (w : World) (h : (c < 1 ∨ 16 < c) ∨ (r < 1 ∨ 16 < r) ∨ (dx < -4096 ∨ 4096 < dx) ∨ (dy < -4096 ∨ 4096 < dy)) :
    Calls Try.prog 29 #[.int .i64 c, .int .i64 r, .int .i64 dx, .int .i64 dy] w fun e w' => e = .returned (.tuple #[.slice none 0 0, .bool false]) ∧ w = w' := by
  by_cases k0 : c < 1 ∨ 16 < c
  · clear h
    go_enter Try.func29, Try.ntmps29
    go_wp2_with fail
    refine (count_no _ _ k0).mono ?_
    rintro e w' ⟨rfl, rfl⟩
    go_wp2_with fail
    go_ret2
    exact ⟨rfl, rfl⟩
  · have l0 : 1 ≤ c ∧ c ≤ 16 := by omega
    obtain ⟨l0a, l0b⟩ := l0
    clear k0
    by_cases k1 : r < 1 ∨ 16 < r
    · clear h
      go_enter Try.func29, Try.ntmps29
      go_wp2_with fail
      refine (count_yes _ _ l0a l0b).mono ?_
      rintro e w' ⟨rfl, rfl⟩
      go_wp2_with fail
      refine (count_no _ _ k1).mono ?_
      rintro e w' ⟨rfl, rfl⟩
      go_wp2_with fail
      go_ret2
      exact ⟨rfl, rfl⟩
    · have l1 : 1 ≤ r ∧ r ≤ 16 := by omega
      obtain ⟨l1a, l1b⟩ := l1
      clear k1
      by_cases k2 : dx < -4096 ∨ 4096 < dx
      · clear h
        go_enter Try.func29, Try.ntmps29
        go_wp2_with fail
        refine (count_yes _ _ l0a l0b).mono ?_
        rintro e w' ⟨rfl, rfl⟩
        go_wp2_with fail
        refine (count_yes _ _ l1a l1b).mono ?_
        rintro e w' ⟨rfl, rfl⟩
        go_wp2_with fail
        refine (offset_no _ _ k2).mono ?_
        rintro e w' ⟨rfl, rfl⟩
        go_wp2_with fail
        go_ret2
        exact ⟨rfl, rfl⟩
      · have l2 : -4096 ≤ dx ∧ dx ≤ 4096 := by omega
        obtain ⟨l2a, l2b⟩ := l2
        clear k2
        have k3 : dy < -4096 ∨ 4096 < dy := by omega
        clear h
        go_enter Try.func29, Try.ntmps29
        go_wp2_with fail
        refine (count_yes _ _ l0a l0b).mono ?_
        rintro e w' ⟨rfl, rfl⟩
        go_wp2_with fail
        refine (count_yes _ _ l1a l1b).mono ?_
        rintro e w' ⟨rfl, rfl⟩
        go_wp2_with fail
        refine (offset_yes _ _ l2a l2b).mono ?_
        rintro e w' ⟨rfl, rfl⟩
        go_wp2_with fail
        refine (offset_no _ _ k3).mono ?_
        rintro e w' ⟨rfl, rfl⟩
        go_wp2_with fail
        go_ret2
        exact ⟨rfl, rfl⟩

/-- What is returned. -/
def gridR (c r dx dy : Int) : List (Int × Int) × Bool :=
  if 1 ≤ c ∧ c ≤ 16 ∧ 1 ≤ r ∧ r ≤ 16 ∧ -4096 ≤ dx ∧ dx ≤ 4096 ∧ -4096 ≤ dy ∧ dy ≤ 4096 then (given (gp c.toNat dx dy r.toNat 0), vp (gp c.toNat dx dy r.toNat 0)) else ([], false)
theorem gridR_len (c r dx dy : Int) : (gridR c r dx dy).1.length ≤ 272 := by
  unfold gridR; split
  · rename_i h
    exact Nat.le_trans (given_len _) (len16 _ _ _ _ _ (by omega) (by omega) (by omega))
  · exact Nat.zero_le _
theorem spec_c : True := trivial
theorem impl_c (c r dx dy : Int) : GivesP 29 #[.int .i64 c, .int .i64 r, .int .i64 dx, .int .i64 dy] (gridR c r dx dy).1 (gridR c r dx dy).2 := by
  intro w
  unfold gridR
  split
  · rename_i h
    obtain ⟨h1, h2, h3, h4, h5, h6, h7, h8⟩ := h
    obtain ⟨c', rfl⟩ : ∃ n : Nat, c = n := ⟨c.toNat, by omega⟩
    obtain ⟨r', rfl⟩ : ∃ n : Nat, r = n := ⟨r.toNat, by omega⟩
    simp only [Int.toNat_natCast]
    exact grid_impl c' r' dx dy w (by omega) (by omega) (by omega) (by omega) h5 h6 h7 h8
  · refine (grid_impl_no c r dx dy w (by omega)).mono ?_
    rintro e w' ⟨rfl, rfl⟩
    exact ⟨none, 0, rfl, World.ownsRow_nil _ _ _ _, World.grownBy.refl _ _⟩

end Go.Proofs.Ytdanlghaiekeaaa.grid
