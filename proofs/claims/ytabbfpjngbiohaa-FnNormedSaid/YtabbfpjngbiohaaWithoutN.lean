/- A copy of a list, sets of places within bounds, and weights without elements: by the program. -/
import Derived.Test.YtabbfpjngbiohaaRows
import Derived.Test.YtabbfpjngbiohaaSlc
import Derived.Test.YtabbfpjngbiohaaSmall
import Derived.Test.YtabbfpjngbiohaaFloats
import Derived.Test.YtabbfpjngbiohaaRound
import Derived.Test.YtabbfpjngbiohaaValues
import Derived.Test.YtabbfpjngbiohaaConv
import Derived.Test.YtabbfpjngbiohaaFWalk
import Derived.Test.YtabbfpjngbiohaaFinWalk
import Derived.Test.YtabbfpjngbiohaaFloat2
import Derived.Test.YtabbfpjngbiohaaFloat3
import Derived.Test.YtabbfpjngbiohaaPhase
import Derived.Test.YtabbfpjngbiohaaSine
import Derived.Test.YtabbfpjngbiohaaPhasor
import Derived.Test.YtabbfpjngbiohaaListC
import Derived.WalkKit
import Derived.ProofKit
import Derived.OpenShut
import Derived.ShutString
import Derived.ChangeOld
import Derived.Below
import Derived.Lib.Hide
import Derived.BigQuiet
import Derived.Deep.QuietTactic
import Derived.WalkLawsBesides
import Derived.Outline
import Derived.Deep.LoopGhost
import Derived.Deep.QuietTactic
import Derived.BigQuiet
import Derived.Deep.RegionHeld3
import Derived.StillTailTactics
import Derived.Laws.ComplexArith
import Derived.Lib.Walk
import Derived.Lib.SliceRun
namespace Go.Proofs.Ytabbfpjngbiohaa.withoutN
open Go.ChangeShapes Go.WideShapes Go.ChangeAt Go.RowKit
open Go.ChangeMaps (open_string shut_string)
set_option linter.unusedVariables false
open Go Ieee Go.RowKit
open Go.Proofs.Ytabbfpjngbiohaa.slc Go.Proofs.Ytabbfpjngbiohaa.small Go.Proofs.Ytabbfpjngbiohaa.listC

theorem rd_cells {w : World} {B n : Nat} {ad : Addr} {f : Nat → Value} (h : Rd w B (some ad) n f) : ∀ j u, (lst f n)[j]? = some u → w.cell? (ad.add j) = some u := by
  intro j u hu
  by_cases hj : j < n
  · rw [lst_get _ _ _ hj] at hu
    obtain ⟨ad', e, _, hc⟩ := h.at_ hj
    injection e with e; subst e
    rw [hc]; exact hu
  · rw [List.getElem?_eq_none (by rw [lst_len]; omega)] at hu
    exact absurd hu (by simp)
theorem one_cells (l : List (Nat × Nat)) (n : Nat) : ∀ u ∈ lst (ccell l) n, u.oneCell' = true := by
  intro u hu
  unfold lst at hu
  obtain ⟨j, _, rfl⟩ := List.mem_map.1 hu
  rfl
set_option maxHeartbeats 1600000 in
set_option maxRecDepth 100000 in
/-- slices.Clone of complex numbers. -/
theorem clone_c (ad : Addr) (n c B : Nat) (l : List (Nat × Nat)) (w : World) (hn : n ≤ 1000) (hr : Rd w B (some ad) n (ccell l)) (hB : B ≤ w.heap.size) :
    Calls Try.prog 98 #[.slice (some ad) n c] w fun e w' => ∃ A' c', e = .returned (.slice A' n c') ∧ w'.ownsRow w.heap.size 36 1 (.slice A' n c') n (lst (ccell l) n) ∧ w.grownBy w' none := by
  obtain ⟨i0, hi0, hz0, hz1, hz2⟩ := info_parts infoC
  have ga := World.grownBy_alloc w (.cells #[] 36) none
  have q22 : ∀ (w : World) (a : Option Addr) (n c n' c' : Nat), (binOp .eql 24 (.slice a n c) (.slice none n' c')).run Try.prog w = .ok (.bool a.isNone) w := fun w a n c n' c' => Lib.run_eql_slice_nil w _ _ a n c n' c' Try.underlying24
  have hra := rd_cells (hr.kept0 ga hB)
  have how := World.ownsRow_lit (base := w.heap.size) (e := 36) (size := 1) w #[] 0 (Nat.le_refl _) (Nat.zero_le _) rfl
  go_enter Try.func98, Try.ntmps98
  go_wp2_with (at_builtin; refine wpList_append_own _ rfl _ _ 24 rfl w.heap.size 36 i0 (.complex .f32 0 0) 1 8 Try.underlying24 hi0 hz0 hz1 hz2 rfl (by decide) _ _ _ rfl how ad n c (lst (ccell l) n) rfl (by rw [lst_len, Nat.mul_one]) hra (one_cells l n) (by unfold maxLen; omega) (by omega) (by simp) ?_; intro v' w4 hown' hgrow _)
  have hown2 : w4.ownsRow w.heap.size 36 1 v' n (lst (ccell l) n) := by simpa using hown'
  obtain ⟨A', c', rfl⟩ := own_form hown2
  go_wp2_with fail
  go_ret
  exact ⟨A', c', rfl, hown2, gb_own ga how (Nat.le_refl _) hgrow⟩
set_option maxHeartbeats 400000 in
set_option maxRecDepth 100000 in
theorem set_yes (A : Option Addr) (c B : Nat) (m : Int) (xs : List Int) (w : World) (h2 : xs.length ≤ 16) (hin : ∀ k (h : k < xs.length), 0 ≤ xs[k] ∧ xs[k] ≤ m) (hup : ∀ k (h : k < xs.length), 0 < k → xs[k - 1] < xs[k]) (hr : Rd w B A xs.length (fun j => (ints xs).getD j undef)) :
    Calls Try.prog 97 #[.slice A xs.length c, .int .i64 0, .int .i64 m] w fun e w' => e = .returned (.bool true) ∧ w = w' := by
  go_enter Try.func97, Try.ntmps97
  go_wp2
  go_loop [11] (fun i => ∃ k : Nat, k ≤ xs.length ∧ i = .int .i64 k) (fun i => xs.length - (intOf i).toNat)
  case atStart => exact ⟨0, Nat.zero_le _, rfl⟩
  case round =>
    obtain ⟨k, hk, rfl⟩ := hrel
    by_cases hlt : k < xs.length
    · obtain ⟨ad, rfl, _, hc⟩ := hr.at_ hlt
      rw [ints_getD xs k hlt] at hc
      obtain ⟨i1, i2⟩ := hin k hlt
      by_cases hk0 : (k : Int) ≤ 0
      · go_wp2_with (go_at_call 100; refine (within_yes _ _ _ _ i1 i2).mono ?_; rintro e w' ⟨rfl, rfl⟩)
        go_round
        case rel => exact ⟨k + 1, by omega, by go_num⟩
        case measure => simp [intOf]; omega
      · have hk1 : 0 < (k : Int) := by omega
        clear hk0
        obtain ⟨bd, e, _, hd⟩ := hr.at_ (show k - 1 < xs.length by omega)
        rw [ints_getD xs (k - 1) (by omega)] at hd
        injection e with e
        subst e
        have hkb : (k : Int) - 1 < xs.length := by omega
        have hf' : xs[k - 1] < xs[k] := hup k hlt (by omega)
        have hf : ¬ xs[k] ≤ xs[k - 1] := by omega
        go_wp2_with (go_at_call 100; refine (within_yes _ _ _ _ i1 i2).mono ?_; rintro e w' ⟨rfl, rfl⟩)
        go_round
        case rel => exact ⟨k + 1, by omega, by go_num⟩
        case measure => simp [intOf]; omega
    · obtain rfl : k = xs.length := by omega
      go_wp2_with fail
      go_ret
      exact ⟨rfl, rfl⟩

end Go.Proofs.Ytabbfpjngbiohaa.withoutN
