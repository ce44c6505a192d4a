/- Small functions of several chapters: bounds, directions, places. -/
import Derived.Test.YthlfclnfkgiddaaDoorRows
import Derived.Test.YthlfclnfkgiddaaDoorSlc
import Derived.WalkKit
import Derived.ProofKit
import Derived.OpenShut
import Derived.ShutString
import Derived.ChangeOld
import Derived.Below
import Derived.Lib.Hide
import Derived.BigQuiet
import Derived.Deep.QuietTactic
import Derived.WalkLawsBesides
import Derived.Outline
import Derived.Deep.QuietTactic
import Derived.BigQuiet
import Derived.Deep.LoopGhost
namespace Go.Proofs.YthlfclnfkgiddaaDoor.small
open Go.ChangeShapes Go.WideShapes Go.ChangeAt Go.RowKit
open Go.ChangeMaps (open_string shut_string)
set_option linter.unusedVariables false
open Go Go.RowKit
open Go.Proofs.YthlfclnfkgiddaaDoor.slc

theorem in_yes (n lo hi : Int) (w : World) (h : lo ≤ n) (h2 : n ≤ hi) :
    Calls Tryd.prog 85 #[.int .i64 n, .int .i64 lo, .int .i64 hi] w fun e w' => e = .returned (.bool true) ∧ w = w' := by
  go_enter Tryd.func85, Tryd.ntmps85
  go_wp2
  go_ret
  simp_all

theorem in_no (n lo hi : Int) (w : World) (h : n < lo ∨ hi < n) :
    Calls Tryd.prog 85 #[.int .i64 n, .int .i64 lo, .int .i64 hi] w fun e w' => e = .returned (.bool false) ∧ w = w' := by
  by_cases hn : n < lo
  · go_enter Tryd.func85, Tryd.ntmps85
    go_wp2
    go_ret
    simp_all
  · have h3 : hi < n := by omega
    clear h
    go_enter Tryd.func85, Tryd.ntmps85
    go_wp2
    go_ret
    simp_all

theorem within_yes (n lo hi : Int) (w : World) (h : lo ≤ n) (h2 : n ≤ hi) :
    Calls Tryd.prog 73 #[.int .i64 n, .int .i64 lo, .int .i64 hi] w fun e w' => e = .returned (.bool true) ∧ w = w' := by
  go_enter Tryd.func73, Tryd.ntmps73
  go_wp2
  go_ret
  simp_all

theorem within_no (n lo hi : Int) (w : World) (h : n < lo ∨ hi < n) :
    Calls Tryd.prog 73 #[.int .i64 n, .int .i64 lo, .int .i64 hi] w fun e w' => e = .returned (.bool false) ∧ w = w' := by
  by_cases hn : n < lo
  · go_enter Tryd.func73, Tryd.ntmps73
    go_wp2
    go_ret
    simp_all
  · have h3 : hi < n := by omega
    clear h
    go_enter Tryd.func73, Tryd.ntmps73
    go_wp2
    go_ret
    simp_all

theorem share_yes : True := trivial

theorem share_no : True := trivial

theorem ret_bool {a b : Bool} (h : a = b) : Ending.returned (.bool a) = .returned (.bool b) := by rw [h]
theorem ret_int {k : IntKind} {a b : Int} (h : a = b) : Ending.returned (.int k a) = .returned (.int k b) := by rw [h]
theorem ret_two {a a' b b' : Value} (h : a = a') (h2 : b = b') : Ending.returned (.tuple #[a, b]) = .returned (.tuple #[a', b']) := by rw [h, h2]

/-- A direction is valid. -/
def dirB (u v : Int) : Bool := decide (-64 ≤ u ∧ u ≤ 64 ∧ -64 ≤ v ∧ v ≤ 64 ∧ u * u + v * v ≤ 4096)
theorem sq_bd (u : Int) (h1 : -64 ≤ u) (h2 : u ≤ 64) : 0 ≤ u * u ∧ u * u ≤ 4096 := by
  have a : u * u = (u.natAbs : Int) * u.natAbs := by rw [Int.natAbs_mul_self']
  have b : u.natAbs ≤ 64 := by omega
  have c : u.natAbs * u.natAbs ≤ 64 * 64 := Nat.mul_le_mul b b
  have d : ((u.natAbs * u.natAbs : Nat) : Int) = (u.natAbs : Int) * u.natAbs := by simp
  omega
theorem dir_yes {u v : Int} (h : dirB u v = true) : -64 ≤ u ∧ u ≤ 64 ∧ -64 ≤ v ∧ v ≤ 64 ∧ u * u + v * v ≤ 4096 := of_decide_eq_true h
theorem dir_no {u v : Int} (h : dirB u v = false) : (u < -64 ∨ 64 < u) ∨ (v < -64 ∨ 64 < v) ∨ (-64 ≤ u ∧ u ≤ 64 ∧ -64 ≤ v ∧ v ≤ 64 ∧ 4096 < u * u + v * v) := by
  have := of_decide_eq_false h
  omega

theorem dir_spec : True := trivial

theorem dir_impl : True := trivial

theorem to_dir : True := trivial

theorem to_place : True := trivial

end Go.Proofs.YthlfclnfkgiddaaDoor.small
