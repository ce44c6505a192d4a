/- Small functions of several chapters: bounds, directions, places. -/
import Derived.Test.YtbefoiikbbjjfaaRows
import Derived.Test.YtbefoiikbbjjfaaSlc
import Derived.WalkKit
import Derived.ProofKit
import Derived.OpenShut
import Derived.ShutString
import Derived.ChangeOld
import Derived.Below
import Derived.Lib.Hide
import Derived.BigQuiet
import Derived.Deep.QuietTactic
import Derived.WalkLawsBesides
import Derived.Outline
import Derived.Deep.QuietTactic
import Derived.BigQuiet
import Derived.Deep.LoopGhost
namespace Go.Proofs.Ytbefoiikbbjjfaa.small
open Go.ChangeShapes Go.WideShapes Go.ChangeAt Go.RowKit
open Go.ChangeMaps (open_string shut_string)
set_option linter.unusedVariables false
open Go Go.RowKit
open Go.Proofs.Ytbefoiikbbjjfaa.slc

theorem in_yes (n lo hi : Int) (w : World) (h : lo ≤ n) (h2 : n ≤ hi) :
    Calls Try.prog 153 #[.int .i64 n, .int .i64 lo, .int .i64 hi] w fun e w' => e = .returned (.bool true) ∧ w = w' := by
  go_enter Try.func153, Try.ntmps153
  go_wp2
  go_ret
  simp_all

theorem in_no (n lo hi : Int) (w : World) (h : n < lo ∨ hi < n) :
    Calls Try.prog 153 #[.int .i64 n, .int .i64 lo, .int .i64 hi] w fun e w' => e = .returned (.bool false) ∧ w = w' := by
  by_cases hn : n < lo
  · go_enter Try.func153, Try.ntmps153
    go_wp2
    go_ret
    simp_all
  · have h3 : hi < n := by omega
    clear h
    go_enter Try.func153, Try.ntmps153
    go_wp2
    go_ret
    simp_all

theorem within_yes (n lo hi : Int) (w : World) (h : lo ≤ n) (h2 : n ≤ hi) :
    Calls Try.prog 100 #[.int .i64 n, .int .i64 lo, .int .i64 hi] w fun e w' => e = .returned (.bool true) ∧ w = w' := by
  go_enter Try.func100, Try.ntmps100
  go_wp2
  go_ret
  simp_all

theorem within_no (n lo hi : Int) (w : World) (h : n < lo ∨ hi < n) :
    Calls Try.prog 100 #[.int .i64 n, .int .i64 lo, .int .i64 hi] w fun e w' => e = .returned (.bool false) ∧ w = w' := by
  by_cases hn : n < lo
  · go_enter Try.func100, Try.ntmps100
    go_wp2
    go_ret
    simp_all
  · have h3 : hi < n := by omega
    clear h
    go_enter Try.func100, Try.ntmps100
    go_wp2
    go_ret
    simp_all

theorem share_yes (n : Int) (w : World) (h : -64 ≤ n) (h2 : n ≤ 64) :
    Calls Try.prog 114 #[.int .i64 n] w fun e w' => e = .returned (.bool true) ∧ w = w' := by
  go_enter Try.func114, Try.ntmps114
  go_wp2_with (go_at_call 100; refine (within_yes _ _ _ _ h h2).mono ?_; rintro e w' ⟨rfl, rfl⟩)
  go_ret
  exact ⟨rfl, rfl⟩

theorem share_no (n : Int) (w : World) (h : n < -64 ∨ 64 < n) :
    Calls Try.prog 114 #[.int .i64 n] w fun e w' => e = .returned (.bool false) ∧ w = w' := by
  go_enter Try.func114, Try.ntmps114
  go_wp2_with (go_at_call 100; refine (within_no _ _ _ _ h).mono ?_; rintro e w' ⟨rfl, rfl⟩)
  go_ret
  exact ⟨rfl, rfl⟩

theorem ret_bool {a b : Bool} (h : a = b) : Ending.returned (.bool a) = .returned (.bool b) := by rw [h]
theorem ret_int {k : IntKind} {a b : Int} (h : a = b) : Ending.returned (.int k a) = .returned (.int k b) := by rw [h]
theorem ret_two {a a' b b' : Value} (h : a = a') (h2 : b = b') : Ending.returned (.tuple #[a, b]) = .returned (.tuple #[a', b']) := by rw [h, h2]

/-- A direction is valid. -/
def dirB (u v : Int) : Bool := decide (-64 ≤ u ∧ u ≤ 64 ∧ -64 ≤ v ∧ v ≤ 64 ∧ u * u + v * v ≤ 4096)
theorem sq_bd (u : Int) (h1 : -64 ≤ u) (h2 : u ≤ 64) : 0 ≤ u * u ∧ u * u ≤ 4096 := by
  have a : u * u = (u.natAbs : Int) * u.natAbs := by rw [Int.natAbs_mul_self']
  have b : u.natAbs ≤ 64 := by omega
  have c : u.natAbs * u.natAbs ≤ 64 * 64 := Nat.mul_le_mul b b
  have d : ((u.natAbs * u.natAbs : Nat) : Int) = (u.natAbs : Int) * u.natAbs := by simp
  omega
theorem dir_yes {u v : Int} (h : dirB u v = true) : -64 ≤ u ∧ u ≤ 64 ∧ -64 ≤ v ∧ v ≤ 64 ∧ u * u + v * v ≤ 4096 := of_decide_eq_true h
theorem dir_no {u v : Int} (h : dirB u v = false) : (u < -64 ∨ 64 < u) ∨ (v < -64 ∨ 64 < v) ∨ (-64 ≤ u ∧ u ≤ 64 ∧ -64 ≤ v ∧ v ≤ 64 ∧ 4096 < u * u + v * v) := by
  have := of_decide_eq_false h
  omega

theorem dir_spec : True := trivial

set_option maxHeartbeats 400000 in
theorem dir_impl (u v : Int) (w : World) :
    Calls Try.prog 112 #[.agg #[.int .i64 u, .int .i64 v]] w fun e w' => e = .returned (.bool (dirB u v)) ∧ w.grownBy w' none := by
  cases hd : dirB u v
  · rcases dir_no hd with h | h | ⟨h1, h2, h3, h4, h5⟩
    · clear hd
      go_enter Try.func112, Try.ntmps112
      go_wp2_with (go_at_call 114; refine (share_no _ _ h).mono ?_; rintro e w' ⟨rfl, rfl⟩)
      go_ret
      exact ⟨rfl, World.grownBy_alloc _ _ _⟩
    · clear hd
      by_cases hu : u < -64 ∨ 64 < u
      · clear h
        have h := hu
        clear hu
        go_enter Try.func112, Try.ntmps112
        go_wp2_with (go_at_call 114; refine (share_no _ _ h).mono ?_; rintro e w' ⟨rfl, rfl⟩)
        go_ret
        exact ⟨rfl, World.grownBy_alloc _ _ _⟩
      · have h1 : -64 ≤ u := by omega
        have h2 : u ≤ 64 := by omega
        clear hu
        go_enter Try.func112, Try.ntmps112
        go_wp2_with (fail)
        refine (share_yes _ _ h1 h2).mono ?_
        rintro e w' ⟨rfl, rfl⟩
        go_wp2_with (go_at_call 114; refine (share_no _ _ h).mono ?_; rintro e w' ⟨rfl, rfl⟩)
        go_ret
        exact ⟨rfl, World.grownBy_alloc _ _ _⟩
    · clear hd
      have s1 := (sq_bd u h1 h2).1
      have s2 := (sq_bd u h1 h2).2
      have s3 := (sq_bd v h3 h4).1
      have s4 := (sq_bd v h3 h4).2
      go_enter Try.func112, Try.ntmps112
      go_wp2_with (go_at_call 114; refine (share_yes _ _ (by omega) (by omega)).mono ?_; rintro e w' ⟨rfl, rfl⟩)
      go_ret
      exact ⟨ret_bool (a := decide (u * u + v * v ≤ 4096)) (by simp; omega), World.grownBy_alloc _ _ _⟩
  · obtain ⟨h1, h2, h3, h4, h5⟩ := dir_yes hd
    clear hd
    have s1 := (sq_bd u h1 h2).1
    have s2 := (sq_bd u h1 h2).2
    have s3 := (sq_bd v h3 h4).1
    have s4 := (sq_bd v h3 h4).2
    go_enter Try.func112, Try.ntmps112
    go_wp2_with (go_at_call 114; refine (share_yes _ _ (by omega) (by omega)).mono ?_; rintro e w' ⟨rfl, rfl⟩)
    go_ret
    exact ⟨rfl, World.grownBy_alloc _ _ _⟩

theorem to_dir : True := trivial

theorem to_place : True := trivial

end Go.Proofs.Ytbefoiikbbjjfaa.small
