/- Places in rows. -/
import Derived.Test.YthnifmgjgdmmoabRows
import Derived.Test.YthnifmgjgdmmoabSlc
import Derived.Test.YthnifmgjgdmmoabSmall
import Derived.Test.YthnifmgjgdmmoabOpens
import Derived.Test.YthnifmgjgdmmoabPlaces
import Derived.Test.YthnifmgjgdmmoabPlaceSet
import Derived.Test.YthnifmgjgdmmoabListP
import Derived.WalkKit
import Derived.ProofKit
import Derived.OpenShut
import Derived.ShutString
import Derived.ChangeOld
import Derived.Below
import Derived.Lib.Hide
import Derived.BigQuiet
import Derived.Deep.QuietTactic
import Derived.WalkLawsBesides
import Derived.Outline
import Derived.Deep.LoopGhost
import Derived.Laws.Tables
namespace Go.Proofs.Ythnifmgjgdmmoab.give
open Go.ChangeShapes Go.WideShapes Go.ChangeAt Go.RowKit
open Go.ChangeMaps (open_string shut_string)
set_option linter.unusedVariables false
open Go Go.RowKit
open Go.Proofs.Ythnifmgjgdmmoab.slc Go.Proofs.Ythnifmgjgdmmoab.small Go.Proofs.Ythnifmgjgdmmoab.opens Go.Proofs.Ythnifmgjgdmmoab.places Go.Proofs.Ythnifmgjgdmmoab.placeSet Go.Proofs.Ythnifmgjgdmmoab.listP

attribute [local go_sem] build_place

theorem step_yes (n : Int) (w : World) (h : -4096 ≤ n) (h2 : n ≤ 4096) :
    Calls Try.prog 125 #[.int .i64 n] w fun e w' => e = .returned (.bool true) ∧ w = w' := by
  go_enter Try.func125, Try.ntmps125
  go_wp2_with (go_at_call 124; refine (in_yes _ _ _ _ h h2).mono ?_; rintro e w' ⟨rfl, rfl⟩)
  go_ret
  exact ⟨rfl, rfl⟩
theorem step_no (n : Int) (w : World) (h : n < -4096 ∨ 4096 < n) :
    Calls Try.prog 125 #[.int .i64 n] w fun e w' => e = .returned (.bool false) ∧ w = w' := by
  go_enter Try.func125, Try.ntmps125
  go_wp2_with (go_at_call 124; refine (in_no _ _ _ _ h).mono ?_; rintro e w' ⟨rfl, rfl⟩)
  go_ret
  exact ⟨rfl, rfl⟩

/-- Handed back if they are valid. -/
def given (ps : List (Int × Int)) : List (Int × Int) := if vp ps = true then ps else []
theorem given_len (ps : List (Int × Int)) : (given ps).length ≤ ps.length := by
  unfold given; split <;> simp

theorem give_spec (A : Option Addr) (c base : Nat) (ps : List (Int × Int)) (w : World) (hm : ps.length ≤ 9223372036854775807) (ho : w.ownsRow base 51 2 (.slice A ps.length c) ps.length (lst (pcell ps) (ps.length * 2))) :
    Calls Try.prog 128 #[.slice A ps.length c] w fun e w' => ∃ A' c', e = .returned (.tuple #[.slice A' (given ps).length c', .bool (vp ps)]) ∧ w'.ownsRow base 51 2 (.slice A' (given ps).length c') (given ps).length (lst (pcell (given ps)) ((given ps).length * 2)) ∧ w.grownBy w' none := by
  have R := Rd.of_lst ho rfl
  unfold given
  cases hv : vp ps
  · rw [if_neg (by simp)]
    go_enter Try.func128, Try.ntmps128
    go_wp2_with fail
    refine (is_spec A c _ ps w hm R (Nat.le_refl _)).mono ?_
    rintro e w1 ⟨rfl, hg1⟩
    go_wp2_with fail
    go_ret2
    exact ⟨none, 0, rfl, World.ownsRow_nil _ _ _ _, hg1⟩
  · rw [if_pos rfl]
    go_enter Try.func128, Try.ntmps128
    go_wp2_with fail
    refine (is_spec A c _ ps w hm R (Nat.le_refl _)).mono ?_
    rintro e w1 ⟨rfl, hg1⟩
    go_wp2_with fail
    go_ret2
    exact ⟨A, c, rfl, own_kept0 ho hg1, hg1⟩

theorem give_impl (A : Option Addr) (c base : Nat) (ps : List (Int × Int)) (w : World) (hm : ps.length ≤ 9223372036854775807) (ho : w.ownsRow base 51 2 (.slice A ps.length c) ps.length (lst (pcell ps) (ps.length * 2))) :
    Calls Try.prog 89 #[.slice A ps.length c] w fun e w' => ∃ A' c', e = .returned (.tuple #[.slice A' (given ps).length c', .bool (vp ps)]) ∧ w'.ownsRow base 51 2 (.slice A' (given ps).length c') (given ps).length (lst (pcell (given ps)) ((given ps).length * 2)) ∧ w.grownBy w' none := by
  have R := Rd.of_lst ho rfl
  unfold given
  cases hv : vp ps
  · rw [if_neg (by simp)]
    go_enter Try.func89, Try.ntmps89
    go_wp2_with fail
    refine (is_impl A c _ ps w hm R (Nat.le_refl _)).mono ?_
    rintro e w1 ⟨rfl, hg1⟩
    go_wp2_with fail
    go_ret2
    exact ⟨none, 0, rfl, World.ownsRow_nil _ _ _ _, hg1⟩
  · rw [if_pos rfl]
    go_enter Try.func89, Try.ntmps89
    go_wp2_with fail
    refine (is_impl A c _ ps w hm R (Nat.le_refl _)).mono ?_
    rintro e w1 ⟨rfl, hg1⟩
    go_wp2_with fail
    go_ret2
    exact ⟨A, c, rfl, own_kept0 ho hg1, hg1⟩

end Go.Proofs.Ythnifmgjgdmmoab.give
