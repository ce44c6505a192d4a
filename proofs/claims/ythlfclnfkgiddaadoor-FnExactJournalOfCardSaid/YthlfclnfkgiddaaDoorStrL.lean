/- Lists of texts in a law: their size, copied, compared. -/
import Derived.Test.YthlfclnfkgiddaaDoorRows
import Derived.Test.YthlfclnfkgiddaaDoorSlc
import Derived.Test.YthlfclnfkgiddaaDoorSmall
import Derived.Test.YthlfclnfkgiddaaDoorWordN
import Derived.Test.YthlfclnfkgiddaaDoorNumN
import Derived.Test.YthlfclnfkgiddaaDoorWordS
import Derived.Test.YthlfclnfkgiddaaDoorDecNum
import Derived.Test.YthlfclnfkgiddaaDoorTextNum
import Derived.Test.YthlfclnfkgiddaaDoorReadNum
import Derived.Test.YthlfclnfkgiddaaDoorCutN
import Derived.Test.YthlfclnfkgiddaaDoorCutT
import Derived.WalkKit
import Derived.ProofKit
import Derived.OpenShut
import Derived.ShutString
import Derived.ChangeOld
import Derived.Below
import Derived.Lib.Hide
import Derived.BigQuiet
import Derived.Deep.QuietTactic
import Derived.WalkLawsBesides
import Derived.Outline
import Derived.Deep.QuietTactic
import Derived.BigQuiet
import Derived.Deep.LoopGhost
namespace Go.Proofs.YthlfclnfkgiddaaDoor.strL
open Go.ChangeShapes Go.WideShapes Go.ChangeAt Go.RowKit
open Go.ChangeMaps (open_string shut_string)
set_option linter.unusedVariables false
open Go Go.RowKit
open Go.Proofs.YthlfclnfkgiddaaDoor.slc Go.Proofs.YthlfclnfkgiddaaDoor.small Go.Proofs.YthlfclnfkgiddaaDoor.wordN Go.Proofs.YthlfclnfkgiddaaDoor.cutN Go.Proofs.YthlfclnfkgiddaaDoor.cutT

/-- Cells of texts. -/
def stf (P : List (List UInt8)) : Nat → Value := fun j => .string (bs (P.getD j []))
theorem run_store_str {P : Program} {w : World} {m : Mode} (a : Addr) (x : ByteArray) : (store a (.string x) m).run P w = stored P w a (.string x) m := run_store P w a _ m rfl
attribute [local go_sem] run_store_str
theorem made_str (n : Nat) : (madeCells (Value.string ByteArray.empty).cells n).toList = lst (fun _ => .string ByteArray.empty) n := by
  rw [← replicate_lst]
  exact toList_madeCells_one (.string ByteArray.empty) n
set_option maxHeartbeats 400000 in
theorem toT (A : Option Addr) (n c : Nat) (P : List (List UInt8)) (w : World) (hn : n ≤ 1048576) (ha : Rd w w.heap.size A n (stf P)) :
    Calls Tryd.prog 45 #[.slice A n c] w fun en w' => ∃ A' c', en = .returned (.slice A' n c') ∧ w'.ownsRow w.heap.size 9 1 (.slice A' n c') n (lst (stf P) n) ∧ w.grownBy w' none := by
  obtain ⟨i0, hi0, hz0, hz1, hz2⟩ := info_parts infoS
  go_enter Tryd.func45, Tryd.ntmps45
  go_wp2_with (at_make; refine wpList_make_full _ rfl _ _ _ rfl w.heap.size 9 i0 (.string ByteArray.empty) 1 Tryd.underlying24 hi0 hz0 hz1 _ _ _ _ n rfl rfl rfl rfl (by rw [hz2]; omega) (by unfold maxLen; omega) (Nat.le_refl _) ?_; intro w1 hown hg)
  go_loopw [4] (fun i wr => ∃ j : Nat, j ≤ n ∧ i = .int .i64 j ∧ wr.ownsRow w.heap.size 9 1 (.slice (some ⟨w.heap.size, 0, none⟩) n n) n (lst (mix (stf P) (fun _ => .string ByteArray.empty) j) n) ∧ w.grownBy wr none) (fun i _ => n - (intOf i).toNat)
  case atStart =>
    refine ⟨0, Nat.zero_le _, rfl, ?_, hg⟩
    rw [Nat.mul_one] at hown
    rw [mix_zero, ← made_str]
    exact hown
  case round =>
    obtain ⟨j, hj, rfl, hown, hg⟩ := hrel
    by_cases hlt : j < n
    · obtain ⟨x, hx⟩ : ∃ x, stf P j = .string x := ⟨_, rfl⟩
      obtain ⟨ad, rfl, hab, hc⟩ := (ha.kept0 hg (Nat.le_refl _)).at_ hlt
      rw [hx] at hc
      have hcell := hown.cellAt j (by omega)
      rw [lst_get _ _ _ hlt] at hcell
      have hf := hown.frozenAt j
      obtain ⟨hs1, hs2⟩ := hown.stored j (.string x)
      rw [← hx, mix_set _ _ _ _ hlt, hx] at hs1
      have hs2' := gb_new hg hs2 (by intro g e; injection e with e; omega)
      clear hg hown hs2
      have HS := Lib.hid hs1
      have HG := Lib.hid hs2'
      clear hs1 hs2' hx
      go_wp2
      go_roundw
      case rel => exact ⟨j + 1, by omega, by go_num, HS.out, HG.out⟩
      case measure => simp [intOf]; omega
    · obtain rfl : j = n := by omega
      go_wp2
      go_ret
      exact ⟨_, _, rfl, by rw [← mix_full]; exact hown, hg⟩
theorem eqT (A A' : Option Addr) (n c d B : Nat) (P : List (List UInt8)) (w : World) (hn : n ≤ 9223372036854775807) (ha : Rd w B A n (stf P)) (hb : Rd w B A' n (stf P)) :
    Calls Tryd.prog 46 #[.slice A n c, .slice A' n d] w fun e w' => e = .returned (.bool true) ∧ w.grownBy w' none := by
  go_enter Tryd.func46, Tryd.ntmps46
  go_wp2
  go_loopw [5] (fun i wr => ∃ k : Nat, k ≤ n ∧ i = .int .i64 k ∧ ∃ q, wr = w.drewN q) (fun i _ => n - (intOf i).toNat)
  case atStart => exact ⟨0, Nat.zero_le _, rfl, 0, rfl⟩
  case round =>
    obtain ⟨k, hk, rfl, q, rfl⟩ := hrel
    by_cases hlt : k < n
    · obtain ⟨x, hx⟩ : ∃ x, stf P k = .string x := ⟨_, rfl⟩
      obtain ⟨ad, rfl, _, hc⟩ := ha.at_ hlt
      obtain ⟨bd, rfl, _, hd⟩ := hb.at_ hlt
      rw [hx] at hc hd
      go_wp2
      go_quiet (fail)
      go_wp2
      go_roundw
      case rel => exact ⟨k + 1, by omega, by go_num, _, rfl⟩
      case measure => simp [intOf]; omega
    · go_wp2
      go_ret
      exact ⟨rfl, gb_drewN _ _ _⟩
/-- The texts' lengths. -/
def lenS (P : List (List UInt8)) : Nat := (P.map List.length).sum
theorem lenS_snoc {P : List (List UInt8)} {k : Nat} (h : k < P.length) : lenS (P.take (k + 1)) = lenS (P.take k) + P[k].length := by
  unfold lenS
  rw [List.take_succ_eq_append_getElem h, List.map_append, List.sum_append]
  simp only [List.map_cons, List.map_nil, List.sum_cons, List.sum_nil, Nat.add_zero]
set_option maxHeartbeats 400000 in
theorem szT (A : Option Addr) (c B : Nat) (P : List (List UInt8)) (w : World) (hn : P.length ≤ 9223372036854775807) (ha : Rd w B A P.length (stf P)) (hp : ∀ l ∈ P, l.length ≤ 9223372036854775807) :
    Calls Tryd.prog 43 #[.slice A P.length c, .int .i64 1048576] w fun e w' => (∃ r : Int, e = .returned (.int .i64 r) ∧ (0 ≤ r → P.length + lenS P ≤ 1048576)) ∧ w = w' := by
  obtain ⟨n, hN⟩ : ∃ n, P.length = n := ⟨_, rfl⟩
  rw [hN] at ha hn ⊢
  have HNL := Lib.hid hN
  by_cases hb : n ≤ 1048576
  · have r0 : ¬ (1048576 : Int) - (n : Int) < 0 := by omega
    have w0 : wrap64 ((1048576 : Int) - (n : Int)) = (1048576 : Int) - (n : Int) := by unfold wrap64; omega
    go_enter Tryd.func43, Tryd.ntmps43
    go_wp2
    go_loopw [1, 5] (fun m i wr => ∃ (k : Nat) (l : Nat), k ≤ n ∧ i = .int .i64 k ∧ m = .int .i64 (l : Nat) ∧ l + n + lenS (P.take k) = 1048576 ∧ w = wr) (fun _ i _ => n - (intOf i).toNat)
    case atStart => exact ⟨0, 1048576 - n, Nat.zero_le _, rfl, by go_num, by simp [lenS]; omega, rfl⟩
    case round =>
      obtain ⟨k, l, hk, rfl, rfl, hl, rfl⟩ := hrel
      by_cases hlt : k < n
      · have hkP : k < P.length := by rw [HNL.out]; exact hlt
        obtain ⟨ad, rfl, _, hc⟩ := ha.at_ hlt
        have hst : stf P k = .string (bs P[k]) := by unfold stf; simp [List.getD, hkP]
        rw [hst] at hc
        obtain ⟨T, hT⟩ : ∃ T, bs P[k] = T := ⟨_, rfl⟩
        obtain ⟨z, hz⟩ : ∃ z, T.size = z := ⟨_, rfl⟩
        have hzl : P[k].length = z := by rw [← hz, ← hT, bs_size]
        have hzb := hp _ (List.getElem_mem hkP)
        rw [hzl] at hzb
        have HSN := Lib.hid (lenS_snoc hkP)
        rw [hzl] at HSN
        rw [hT] at hc
        clear hst hT hzl
        by_cases hle : z ≤ l
        · have w1 : wrap64 ((l : Int) - (z : Int)) = (l : Int) - (z : Int) := by unfold wrap64; omega
          have r1 : ¬ (l : Int) - (z : Int) < 0 := by omega
          go_wp2
          go_roundw
          case rel => exact ⟨k + 1, l - z, by omega, by go_num, by go_num, by rw [HSN.out]; omega, trivial⟩
          case measure => simp [intOf]; omega
        · have w1 : wrap64 ((l : Int) - (z : Int)) = (l : Int) - (z : Int) := by unfold wrap64; omega
          have r1 : (l : Int) - (z : Int) < 0 := by omega
          go_wp2
          go_ret
          exact ⟨⟨_, rfl, fun h => by omega⟩, rfl⟩
      · obtain rfl : k = n := by omega
        rw [List.take_of_length_le (by rw [HNL.out]; exact Nat.le_refl _)] at hl
        go_wp2
        go_ret
        exact ⟨⟨_, rfl, fun _ => by omega⟩, rfl⟩
  · have r0 : (1048576 : Int) - (n : Int) < 0 := by omega
    have w0 : wrap64 ((1048576 : Int) - (n : Int)) = (1048576 : Int) - (n : Int) := by unfold wrap64; omega
    go_enter Tryd.func43, Tryd.ntmps43
    go_wp2
    go_ret
    exact ⟨⟨_, rfl, fun h => by omega⟩, rfl⟩

end Go.Proofs.YthlfclnfkgiddaaDoor.strL
