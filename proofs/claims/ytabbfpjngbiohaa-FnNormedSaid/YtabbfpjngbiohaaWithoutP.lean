/- Weights without elements, by the program. -/
import Derived.Test.YtabbfpjngbiohaaRows
import Derived.Test.YtabbfpjngbiohaaSlc
import Derived.Test.YtabbfpjngbiohaaSmall
import Derived.Test.YtabbfpjngbiohaaFloats
import Derived.Test.YtabbfpjngbiohaaRound
import Derived.Test.YtabbfpjngbiohaaValues
import Derived.Test.YtabbfpjngbiohaaConv
import Derived.Test.YtabbfpjngbiohaaFWalk
import Derived.Test.YtabbfpjngbiohaaFinWalk
import Derived.Test.YtabbfpjngbiohaaFloat2
import Derived.Test.YtabbfpjngbiohaaFloat3
import Derived.Test.YtabbfpjngbiohaaPhase
import Derived.Test.YtabbfpjngbiohaaSine
import Derived.Test.YtabbfpjngbiohaaPhasor
import Derived.Test.YtabbfpjngbiohaaListC
import Derived.Test.YtabbfpjngbiohaaSteerNum
import Derived.Test.YtabbfpjngbiohaaSineIn
import Derived.Test.YtabbfpjngbiohaaPolyNum
import Derived.Test.YtabbfpjngbiohaaPolyW
import Derived.Test.YtabbfpjngbiohaaPoly1
import Derived.Test.YtabbfpjngbiohaaListCC
import Derived.Test.YtabbfpjngbiohaaPoly2
import Derived.Test.YtabbfpjngbiohaaGPoly
import Derived.Test.YtabbfpjngbiohaaGNum
import Derived.Test.YtabbfpjngbiohaaSrcW
import Derived.Test.YtabbfpjngbiohaaRq
import Derived.Test.YtabbfpjngbiohaaRoot
import Derived.Test.YtabbfpjngbiohaaPowW
import Derived.Test.YtabbfpjngbiohaaRootN
import Derived.Test.YtabbfpjngbiohaaQuoN
import Derived.Test.YtabbfpjngbiohaaFine
import Derived.Test.YtabbfpjngbiohaaFineN
import Derived.Test.YtabbfpjngbiohaaNormQ
import Derived.Test.YtabbfpjngbiohaaNormNum
import Derived.Test.YtabbfpjngbiohaaNormSum
import Derived.Test.YtabbfpjngbiohaaNormP
import Derived.Test.YtabbfpjngbiohaaWithoutN
import Derived.WalkKit
import Derived.ProofKit
import Derived.OpenShut
import Derived.ShutString
import Derived.ChangeOld
import Derived.Below
import Derived.Lib.Hide
import Derived.BigQuiet
import Derived.Deep.QuietTactic
import Derived.WalkLawsBesides
import Derived.Outline
import Derived.Deep.LoopGhost
import Derived.Deep.QuietTactic
import Derived.BigQuiet
import Derived.Deep.RegionHeld3
import Derived.StillTailTactics
import Derived.Laws.ComplexArith
import Derived.Lib.Walk
import Derived.Lib.SliceRun
namespace Go.Proofs.Ytabbfpjngbiohaa.withoutP
open Go.ChangeShapes Go.WideShapes Go.ChangeAt Go.RowKit
open Go.ChangeMaps (open_string shut_string)
set_option linter.unusedVariables false
open Go Ieee Go.RowKit
open Go.Proofs.Ytabbfpjngbiohaa.slc Go.Proofs.Ytabbfpjngbiohaa.small Go.Proofs.Ytabbfpjngbiohaa.listC Go.Proofs.Ytabbfpjngbiohaa.normP Go.Proofs.Ytabbfpjngbiohaa.withoutN

/-- A list's cells, with zeros at the first k places of xs. -/
def clr (f : Nat → Value) (xs : List Int) (k : Nat) (j : Nat) : Value := if (j : Int) ∈ xs.take k then .complex .f32 0 0 else f j
theorem clr_zero (f : Nat → Value) (xs : List Int) : clr f xs 0 = f := by funext j; simp [clr]
theorem lst_set (f g : Nat → Value) (n j : Nat) (v : Value) (hj : g j = v) (h : ∀ i, i ≠ j → g i = f i) : (lst f n).set j v = lst g n := by
  apply List.ext_getElem?
  intro i
  by_cases hi : i < n
  · rw [lst_get _ _ _ hi]
    by_cases e : i = j
    · subst e
      rw [List.getElem?_set_self (by rw [lst_len]; exact hi), hj]
    · rw [List.getElem?_set_ne (by omega), lst_get _ _ _ hi, h i e]
  · rw [List.getElem?_eq_none (by simp [lst_len]; omega), List.getElem?_eq_none (by rw [lst_len]; omega)]
theorem clr_step (f : Nat → Value) (xs : List Int) (k n j : Nat) (hk : k < xs.length) (hj : xs[k] = (j : Int)) : (lst (clr f xs k) n).set j (.complex .f32 0 0) = lst (clr f xs (k + 1)) n := by
  refine lst_set _ _ _ _ _ ?_ ?_
  · unfold clr
    rw [if_pos]
    rw [List.take_add_one, List.getElem?_eq_getElem hk, hj]
    simp
  · intro i hi
    unfold clr
    have : ((i : Int) ∈ xs.take (k + 1)) ↔ (i : Int) ∈ xs.take k := by
      rw [List.take_add_one, List.getElem?_eq_getElem hk, hj]
      simp
      intro e; omega
    simp only [this]
theorem own_addr {w : World} {B n : Nat} {t : TypeId} {A : Option Addr} {c : Nat} {cs : List Value} (h : w.ownsRow B t 1 (.slice A n c) n cs) (hn : 1 ≤ n) : ∃ g, A = some ⟨g, 0, none⟩ ∧ B ≤ g := by
  rcases h.2 with q | ⟨g, cc, cells, hv, hge, _⟩
  · simp at q; omega
  · injection hv with e
    exact ⟨g, e, hge⟩
attribute [local go_sem] run_store_complex
set_option maxHeartbeats 2000000 in
set_option maxRecDepth 100000 in
theorem without_c (ad : Addr) (A : Option Addr) (n c c1 B B1 : Nat) (l : List (Nat × Nat)) (xs : List Int) (w : World) (h1 : 1 ≤ n) (hn : n ≤ 16) (h2 : xs.length ≤ 16) (hin : ∀ k (h : k < xs.length), 0 ≤ xs[k] ∧ xs[k] ≤ (n : Int) - 1) (hup : ∀ k (h : k < xs.length), 0 < k → xs[k - 1] < xs[k])
    (hr : Rd w B (some ad) n (ccell l)) (hB : B ≤ w.heap.size) (hx : Rd w B1 A xs.length (fun j => (ints xs).getD j undef)) (hB1 : B1 ≤ w.heap.size) :
    Calls Try.prog 21 #[.slice (some ad) n c, .slice A xs.length c1] w fun e w' => ∃ A' c', e = .returned (.tuple #[.slice A' n c', .bool true]) ∧ w'.ownsRow w.heap.size 36 1 (.slice A' n c') n (lst (clr (ccell l) xs xs.length) n) ∧ w.grownBy w' none := by
  have HC := Lib.hid (clone_c ad n c B l w (by omega) hr hB)
  have HSet := Lib.hid (set_yes A c1 B1 ((n : Int) - 1) xs w h2 hin hup hx)
  have HI := Lib.hid hin
  clear hin hup
  have s1 : (-9223372036854775808 : Int) ≤ (n : Int) - 1 := by omega
  have s2 : (n : Int) - 1 ≤ 9223372036854775807 := by omega
  go_enter Try.func21, Try.ntmps21
  go_wp2_with fail
  refine (weights_c _ n c w h1 hn).mono ?_
  rintro e w' ⟨rfl, rfl⟩
  go_wp2_with fail
  refine HSet.out.mono ?_
  rintro e w' ⟨rfl, rfl⟩
  go_wp2_with fail
  refine HC.out.mono ?_
  rintro e w4 ⟨A', c', rfl, hown4, hg4⟩
  obtain ⟨g, rfl, hge⟩ := own_addr hown4 h1
  go_wp2_with fail
  go_loopw [24] (fun i wr => ∃ k : Nat, k ≤ xs.length ∧ i = .int .i64 k ∧ wr.ownsRow w.heap.size 36 1 (.slice (some ⟨g, 0, none⟩) n c') n (lst (clr (ccell l) xs k) n) ∧ w.grownBy wr none) (fun i _ => xs.length - (intOf i).toNat)
  case atStart =>
    refine ⟨0, Nat.zero_le _, rfl, ?_, hg4⟩
    rw [clr_zero]
    exact hown4
  case round =>
    obtain ⟨k, hk, rfl, hown, hg⟩ := hrel
    by_cases hlt : k < xs.length
    · obtain ⟨ad', rfl, _, hc1⟩ := (hx.kept0 hg hB1).at_ hlt
      rw [ints_getD xs k hlt] at hc1
      obtain ⟨i1, i2⟩ := HI.out k hlt
      obtain ⟨j, hj⟩ : ∃ j : Nat, xs[k] = (j : Int) := ⟨xs[k].toNat, by omega⟩
      have hjn : j < n := by omega
      have HMX := Lib.hid (clr_step (ccell l) xs k n j hlt hj)
      rw [hj] at hc1
      have k0 : (0 : Int) ≤ k := by omega
      have k1 : (k : Int) < xs.length := by omega
      have j0 : (0 : Int) ≤ j := by omega
      have j1 : (j : Int) < n := by omega
      have hcell5 := hown.cellAt j (by omega)
      rw [lst_get _ _ _ hjn] at hcell5
      obtain ⟨p, q, hpq⟩ : ∃ p q, clr (ccell l) xs k j = .complex .f32 p q := by
        unfold clr ccell
        split
        · exact ⟨_, _, rfl⟩
        · exact ⟨_, _, rfl⟩
      rw [hpq] at hcell5
      have hf5 := hown.frozenAt j
      obtain ⟨hs1, hs2⟩ := hown.stored j (.complex .f32 0 0)
      rw [HMX.out] at hs1
      have hs2' := gb_own hg hown (Nat.le_refl _) hs2
      have HS4 := Lib.hid hs1
      have HG4 := Lib.hid hs2'
      clear hs1 hs2' hs2 hown hg hpq i1 i2 hj
      go_wp2
      go_roundw
      case rel => exact ⟨k + 1, by omega, by go_num, HS4.out, HG4.out⟩
      case measure => simp [intOf]; omega
    · obtain rfl : k = xs.length := by omega
      go_wp2_with fail
      go_ret2
      exact ⟨_, _, rfl, hown, hg⟩

end Go.Proofs.Ytabbfpjngbiohaa.withoutP
