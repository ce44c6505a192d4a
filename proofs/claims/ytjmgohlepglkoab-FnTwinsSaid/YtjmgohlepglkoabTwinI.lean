/- Twins by the program; a list of them, read from an index on. -/
import Derived.Test.YtjmgohlepglkoabRows
import Derived.Test.YtjmgohlepglkoabSlc
import Derived.Test.YtjmgohlepglkoabSmall
import Derived.Test.YtjmgohlepglkoabListI
import Derived.WalkKit
import Derived.ProofKit
import Derived.OpenShut
import Derived.ShutString
import Derived.ChangeOld
import Derived.Below
import Derived.Lib.Hide
import Derived.BigQuiet
import Derived.Deep.QuietTactic
import Derived.WalkLawsBesides
import Derived.Outline
import Derived.Deep.QuietTactic
import Derived.BigQuiet
import Derived.Deep.LoopGhost
namespace Go.Proofs.Ytjmgohlepglkoab.twinI
open Go.ChangeShapes Go.WideShapes Go.ChangeAt Go.RowKit
open Go.ChangeMaps (open_string shut_string)
set_option linter.unusedVariables false
open Go Go.RowKit
open Go.Proofs.Ytjmgohlepglkoab.slc Go.Proofs.Ytjmgohlepglkoab.listI Go.Proofs.Ytjmgohlepglkoab.small

/-- The twins among the first k directions from -64 on. -/
def tw (s u : Int) (k : Nat) : List Int := ((List.range k).map fun i : Nat => (i : Int) - 64).filter fun t => ((t - u) * s).tmod 4096 == 0
theorem tw_zero (s u : Int) : tw s u 0 = [] := rfl
theorem tw_succ (s u : Int) (k : Nat) : tw s u (k + 1) = tw s u k ++ (if ((((k : Int) - 64) - u) * s).tmod 4096 = 0 then [(k : Int) - 64] else []) := by
  unfold tw
  rw [List.range_succ, List.map_append, List.filter_append]
  simp [List.filter_cons]
theorem tw_len (s u : Int) (k : Nat) : (tw s u k).length ≤ k := by
  unfold tw
  exact Nat.le_trans (List.length_filter_le _ _) (by simp)
theorem prod_bd (s u t : Int) (h1 : 1 ≤ s) (h2 : s ≤ 4096) (h3 : -64 ≤ u) (h4 : u ≤ 64) (h5 : -64 ≤ t) (h6 : t ≤ 64) : -524288 ≤ (t - u) * s ∧ (t - u) * s ≤ 524288 := by
  have a : (t - u) * s ≤ 128 * s := Int.mul_le_mul_of_nonneg_right (by omega) (by omega)
  have b : (-128) * s ≤ (t - u) * s := Int.mul_le_mul_of_nonneg_right (by omega) (by omega)
  omega

set_option maxHeartbeats 400000 in
set_option maxRecDepth 100000 in
theorem impl_yes (s u : Int) (w : World) (h1 : 1 ≤ s) (h2 : s ≤ 4096) (h3 : -64 ≤ u) (h4 : u ≤ 64) :
    Calls Try.prog 76 #[.int .i64 s, .int .i64 u] w fun e w' => ∃ A c, e = .returned (.tuple #[.slice A (tw s u 129).length c, .bool true]) ∧ w'.ownsRow w.heap.size 2 1 (.slice A (tw s u 129).length c) (tw s u 129).length (ints (tw s u 129)) ∧ w.grownBy w' none := by
  obtain ⟨i0, hi0, hz0, hz1, hz2⟩ := info_parts info64
  go_enter Try.func76, Try.ntmps76
  go_wp2_with (first
    | (go_at_call 101; refine (within_yes _ _ _ _ (by omega) (by omega)).mono ?_; rintro e w' ⟨rfl, rfl⟩)
    | (go_at_call 102; refine (share_yes _ _ (by omega) (by omega)).mono ?_; rintro e w' ⟨rfl, rfl⟩))
  go_loopw [6, 7] (fun v i wr => ∃ k : Nat, k ≤ 129 ∧ i = .int .i64 ((k : Int) - 64) ∧ wr.ownsRow w.heap.size 2 1 v (tw s u k).length (ints (tw s u k)) ∧ w.grownBy wr none) (fun _ i _ => (65 - intOf i).toNat)
  case atStart => exact ⟨0, by omega, rfl, World.ownsRow_nil _ _ _ _, World.grownBy.refl _ _⟩
  case round =>
    obtain ⟨k, hk, rfl, hown, hg⟩ := hrel
    have hl := tw_len s u k
    by_cases hlt : k < 129
    · obtain ⟨hb1, hb2⟩ := prod_bd s u ((k : Int) - 64) h1 h2 h3 h4 (by omega) (by omega)
      have hs := tw_succ s u k
      have hbs := Nat.le_trans hg.size (show wr.heap.size ≤ (wr.alloc (.cells #[.int .i64 ((k : Int) - 64)] 2)).heap.size by simp)
      by_cases hz : ((((k : Int) - 64) - u) * s).tmod 4096 = 0
      · rw [if_pos hz] at hs
        have HS := Lib.hid hs
        clear hs
        go_wp2_with (at_builtin; refine wpList_append_own _ rfl _ _ 47 rfl w.heap.size 2 i0 (.int .i64 0) 1 8 Try.underlying47 hi0 hz0 hz1 hz2 rfl (by decide) _ _ _ rfl (hown.alloc _) ⟨wr.heap.size, 0, none⟩ 1 1 [.int .i64 ((k : Int) - 64)] rfl rfl (cell_one_new _ _ _) (int_one _ _) (by unfold maxLen; omega) (by omega) hbs ?_; intro v' w1 hown' hgrow _)
        go_roundw
        case rel =>
          refine ⟨k + 1, by omega, ?_, ?_, ?_⟩
          · exact congrArg (Value.int .i64) (by omega)
          · rw [HS.out, List.length_append, ← ints_snoc]; exact hown'
          · exact gb_own (hg.trans (World.grownBy_alloc _ _ _)) (hown.alloc _) (Nat.le_refl _) hgrow
        case measure => simp [intOf]; omega
      · rw [if_neg hz, List.append_nil] at hs
        have HS := Lib.hid hs
        clear hs
        go_wp2
        go_roundw
        case rel => exact ⟨k + 1, by omega, congrArg (Value.int .i64) (by omega), by rw [HS.out]; exact hown, hg⟩
        case measure => simp [intOf]; omega
    · obtain rfl : k = 129 := by omega
      obtain ⟨A, c, rfl⟩ := own_form hown
      go_wp2
      go_ret2
      exact ⟨_, _, rfl, hown, hg⟩


/-- Whether a direction is a twin. -/
def isTw (s u : Int) (j : Nat) : Prop := (((j : Int) - 64 - u) * s).tmod 4096 = 0
/-- The twins from the j-th direction on. -/
def twR (s u : Int) (j m : Nat) : List Int := ((List.range' j m).map fun i : Nat => (i : Int) - 64).filter fun t => ((t - u) * s).tmod 4096 == 0
theorem tw_split (s u : Int) (j m : Nat) : tw s u (j + m) = tw s u j ++ twR s u j m := by
  unfold tw twR
  have h : List.range' 0 j ++ List.range' j m = List.range' 0 (j + m) := by
    have := @List.range'_append_1 0 j m
    simpa using this
  rw [← List.filter_append, ← List.map_append, List.range_eq_range', List.range_eq_range', h]
theorem twR_ge (s u : Int) (j m : Nat) : ∀ x ∈ twR s u j m, (j : Int) - 64 ≤ x := by
  intro x hx
  obtain ⟨h1, _⟩ := List.mem_filter.1 hx
  obtain ⟨i, hi, rfl⟩ := List.mem_map.1 h1
  have := (List.mem_range'_1.1 hi).1
  omega
/-- The list at the place of the next one is the direction itself exactly if it is a twin. -/
theorem tw_next (s u : Int) (j : Nat) (hj : j < 129) :
    (((((j : Int) - 64) - u) * s).tmod 4096 = 0 → ∃ h : (tw s u j).length < (tw s u 129).length, (tw s u 129)[(tw s u j).length] = (j : Int) - 64) ∧
    (((((j : Int) - 64) - u) * s).tmod 4096 ≠ 0 → ∀ h : (tw s u j).length < (tw s u 129).length, (tw s u 129)[(tw s u j).length] ≠ (j : Int) - 64) := by
  obtain ⟨m, hm⟩ := Nat.exists_eq_add_of_lt hj
  have e : tw s u 129 = tw s u (j + 1) ++ twR s u (j + 1) m := by rw [← tw_split]; congr 1; omega
  have hs := tw_succ s u j
  constructor
  · intro hz
    rw [if_pos hz] at hs
    rw [hs, List.append_assoc] at e
    refine ⟨by rw [e]; simp, ?_⟩
    simp only [e]
    rw [List.getElem_append_right (Nat.le_refl _)]
    simp
  · intro hz h hx
    rw [if_neg hz, List.append_nil] at hs
    rw [hs] at e
    have h2 : (tw s u 129)[(tw s u j).length] ∈ twR s u (j + 1) m := by
      simp only [e]
      rw [List.getElem_append_right (Nat.le_refl _)]
      exact List.getElem_mem _
    have := twR_ge s u (j + 1) m _ h2
    omega
theorem impl_tw (s u : Int) (w : World) (h1 : 1 ≤ s) (h2 : s ≤ 4096) (h3 : -64 ≤ u) (h4 : u ≤ 64) :
    Calls Try.prog 76 #[.int .i64 s, .int .i64 u] w fun e w' => ∃ A c, e = .returned (.tuple #[.slice A (tw s u 129).length c, .bool true]) ∧ Rd w' w'.heap.size A (tw s u 129).length (fun j => (ints (tw s u 129)).getD j undef) ∧ w.grownBy w' none :=
  (impl_yes s u w h1 h2 h3 h4).mono fun e w' ⟨A, c, h, ho, hg⟩ => ⟨A, c, h, Rd.of_own ho (Nat.mul_one _).symm, hg⟩

end Go.Proofs.Ytjmgohlepglkoab.twinI
