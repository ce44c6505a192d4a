/- How many bytes two texts have in common at their beginning, by the program. -/
import Derived.Test.YthlfclnfkgiddaaDoorRows
import Derived.Test.YthlfclnfkgiddaaDoorSlc
import Derived.Test.YthlfclnfkgiddaaDoorSmall
import Derived.Test.YthlfclnfkgiddaaDoorElemC
import Derived.Test.YthlfclnfkgiddaaDoorHeadC
import Derived.WalkKit
import Derived.ProofKit
import Derived.OpenShut
import Derived.ShutString
import Derived.ChangeOld
import Derived.Below
import Derived.Lib.Hide
import Derived.BigQuiet
import Derived.Deep.QuietTactic
import Derived.WalkLawsBesides
import Derived.Outline
import Derived.Deep.QuietTactic
import Derived.BigQuiet
import Derived.Deep.LoopGhost
import Derived.Deep.RegionWith
import Derived.Deep.RegionHeld3
import Derived.Lib.Strings
namespace Go.Proofs.YthlfclnfkgiddaaDoor.diffC
open Go.ChangeShapes Go.WideShapes Go.ChangeAt Go.RowKit
open Go.ChangeMaps (open_string shut_string)
set_option linter.unusedVariables false
open Go Go.RowKit
open Go.Proofs.YthlfclnfkgiddaaDoor.slc Go.Proofs.YthlfclnfkgiddaaDoor.small Go.Proofs.YthlfclnfkgiddaaDoor.elemC Go.Proofs.YthlfclnfkgiddaaDoor.headC

/-- How many bytes at their beginning two lists have in common. -/
def cp : List UInt8 → List UInt8 → Nat
  | x :: l, y :: m => if x = y then cp l m + 1 else 0
  | _, _ => 0
theorem cp_nil (l m : List UInt8) (h : l = [] ∨ m = []) : cp l m = 0 := by
  rcases h with rfl | rfl
  · rfl
  · cases l <;> rfl
theorem drop_cons {l : List UInt8} {k : Nat} (h : k < l.length) : l.drop k = l.getD k 0 :: l.drop (k + 1) := by
  rw [List.drop_eq_getElem_cons h]
  simp [List.getD, h]
theorem cp_eq {l m : List UInt8} {k : Nat} (h1 : k < l.length) (h2 : k < m.length) (e : l.getD k 0 = m.getD k 0) : cp (l.drop k) (m.drop k) = cp (l.drop (k + 1)) (m.drop (k + 1)) + 1 := by
  rw [drop_cons h1, drop_cons h2, show cp (l.getD k 0 :: l.drop (k + 1)) (m.getD k 0 :: m.drop (k + 1)) = if l.getD k 0 = m.getD k 0 then cp (l.drop (k + 1)) (m.drop (k + 1)) + 1 else 0 from rfl, if_pos e]
theorem cp_ne {l m : List UInt8} {k : Nat} (h1 : k < l.length) (h2 : k < m.length) (e : ¬ l.getD k 0 = m.getD k 0) : cp (l.drop k) (m.drop k) = 0 := by
  rw [drop_cons h1, drop_cons h2]
  unfold cp
  rw [if_neg e]
theorem cp_end {l m : List UInt8} {k : Nat} (h : l.length ≤ k ∨ m.length ≤ k) : cp (l.drop k) (m.drop k) = 0 := by
  refine cp_nil _ _ ?_
  rcases h with h | h
  · exact .inl (List.drop_of_length_le h)
  · exact .inr (List.drop_of_length_le h)
theorem cp_le (l m : List UInt8) : cp l m ≤ l.length := by
  induction l generalizing m with
  | nil => exact Nat.le_refl _
  | cons x l ih =>
    cases m with
    | nil => exact Nat.zero_le _
    | cons y m =>
      unfold cp
      split
      · have := ih m; simp; omega
      · exact Nat.zero_le _
theorem u8_ne {x y : UInt8} (h : ¬ x = y) : ¬ (x.toNat : Int) = (y.toNat : Int) := fun e => h (UInt8.toNat_inj.1 (by omega))
theorem min2c (t : TypeId) (w : World) (a b m : Int) (hm : min a b = m) : (Builtin.min_ #[t, t] t #[.int .i64 a, .int .i64 b]).run Tryd.prog w = .ok (.int .i64 m) w := by
  subst hm
  have e : Builtin.min_ #[t, t] t #[.int .i64 a, .int .i64 b] = pure (.int .i64 (min a b)) := by
    simp only [Builtin.min_, List.foldlM, Builtin.min2, bind_pure]
    congr 2
    omega
  rw [e]
  rfl
attribute [local go_sem] min2c
set_option maxHeartbeats 2000000 in
set_option maxRecDepth 100000 in
theorem common_c (s t : ByteArray) (w : World) (hs : s.size ≤ 1099511627776) (ht : t.size ≤ 1099511627776) :
    Calls Tryd.prog 76 #[.string s, .string t] w fun e w' => e = .returned (.int .i64 (cp s.data.toList t.data.toList : Nat)) ∧ w.grownBy w' none := by
  obtain ⟨m, hm⟩ : ∃ m, min s.size t.size = m := ⟨_, rfl⟩
  have hmn := fun w => min2c 3 w (s.size : Int) (t.size : Int) (m : Int) (by omega)
  have hm1 : m ≤ s.size := by omega
  have hm2 : m ≤ t.size := by omega
  have hm3 : s.size ≤ m ∨ t.size ≤ m := by omega
  clear hm
  go_enter Tryd.func76, Tryd.ntmps76
  go_wp2_with fail
  go_loopw [5] (fun i wr => ∃ k : Nat, k ≤ m ∧ i = .int .i64 k ∧ cp (s.data.toList.drop k) (t.data.toList.drop k) + k = cp s.data.toList t.data.toList ∧ w.grownBy wr none) (fun i _ => m - (intOf i).toNat)
  case atStart => exact ⟨0, Nat.zero_le _, rfl, rfl, World.grownBy.refl _ _⟩
  case round =>
    obtain ⟨k, hk, rfl, hc, hg⟩ := hrel
    by_cases hlt : k < m
    · have h1 : k < s.size := by omega
      have h2 : k < t.size := by omega
      have l1 : k < s.data.toList.length := by rw [sz]; exact h1
      have l2 : k < t.data.toList.length := by rw [sz]; exact h2
      have a1 := at_list s k h1
      have a2 := at_list t k h2
      have k0 : (0 : Int) ≤ (k : Int) := by omega
      have k1 : (k : Int) < (m : Int) := by omega
      have k2 : (k : Int) < (s.size : Int) := by omega
      have k3 : (k : Int) < (t.size : Int) := by omega
      by_cases he : s.data.toList.getD k 0 = t.data.toList.getD k 0
      · have hn := cp_eq l1 l2 he
        have hb : (s[k].toNat : Int) = (t[k].toNat : Int) := by rw [a1, a2, he]
        have HC := Lib.hid (show cp (s.data.toList.drop (k + 1)) (t.data.toList.drop (k + 1)) + (k + 1) = cp s.data.toList t.data.toList by omega)
        have HG := Lib.hid hg
        clear hc hn he a1 a2 hg
        go_wp2_with fail
        go_quiet (fail)
        have gB := HG.out.trans (gb_drewN wr nq none)
        generalize wr.drewN nq = wF at *
        go_wp2_with fail
        go_roundw
        case rel => exact ⟨k + 1, by omega, by go_num, HC.out, gB⟩
        case measure => simp [intOf]; omega
      · have hn := cp_ne l1 l2 he
        have hb := u8_ne he
        rw [← a1, ← a2] at hb
        have HC := Lib.hid (show cp s.data.toList t.data.toList = k by omega)
        have HG := Lib.hid hg
        clear hc hn he a1 a2 hg
        go_wp2_with fail
        go_quiet (fail)
        go_wp2_with fail
        go_ret
        exact ⟨by rw [HC.out]; rfl, HG.out.trans (gb_drewN _ _ _)⟩
    · obtain rfl : k = m := by omega
      have HC := Lib.hid (show cp s.data.toList t.data.toList = k by have := cp_end (l := s.data.toList) (m := t.data.toList) (k := k) (by rw [sz, sz]; exact hm3); omega)
      have HG := Lib.hid hg
      clear hc hg
      go_wp2_with fail
      go_quiet (fail)
      go_wp2_with fail
      go_ret
      exact ⟨by rw [HC.out]; rfl, HG.out.trans (gb_drewN _ _ _)⟩

end Go.Proofs.YthlfclnfkgiddaaDoor.diffC
