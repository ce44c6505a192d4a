/- Places in rows. -/
import Derived.Test.YtdanlghaiekeaaaRows
import Derived.Test.YtdanlghaiekeaaaSlc
import Derived.Test.YtdanlghaiekeaaaSmall
import Derived.Test.YtdanlghaiekeaaaOpens
import Derived.Test.YtdanlghaiekeaaaPlaces
import Derived.Test.YtdanlghaiekeaaaPlaceSet
import Derived.Test.YtdanlghaiekeaaaListP
import Derived.WalkKit
import Derived.ProofKit
import Derived.OpenShut
import Derived.ShutString
import Derived.ChangeOld
import Derived.Below
import Derived.Lib.Hide
import Derived.BigQuiet
import Derived.Deep.QuietTactic
import Derived.WalkLawsBesides
import Derived.Outline
import Derived.Deep.LoopGhost
import Derived.Laws.Tables
namespace Go.Proofs.Ytdanlghaiekeaaa.give
open Go.ChangeShapes Go.WideShapes Go.ChangeAt Go.RowKit
open Go.ChangeMaps (open_string shut_string)
set_option linter.unusedVariables false
open Go Go.RowKit
open Go.Proofs.Ytdanlghaiekeaaa.slc Go.Proofs.Ytdanlghaiekeaaa.small Go.Proofs.Ytdanlghaiekeaaa.opens Go.Proofs.Ytdanlghaiekeaaa.places Go.Proofs.Ytdanlghaiekeaaa.placeSet Go.Proofs.Ytdanlghaiekeaaa.listP

attribute [local go_sem] build_place

theorem step_yes : True := trivial
theorem step_no : True := trivial

/-- Handed back if they are valid. -/
def given (ps : List (Int × Int)) : List (Int × Int) := if vp ps = true then ps else []
theorem given_len (ps : List (Int × Int)) : (given ps).length ≤ ps.length := by
  unfold given; split <;> simp

theorem give_spec : True := trivial

theorem give_impl (A : Option Addr) (c base : Nat) (ps : List (Int × Int)) (w : World) (hm : ps.length ≤ 9223372036854775807) (ho : w.ownsRow base 49 2 (.slice A ps.length c) ps.length (lst (pcell ps) (ps.length * 2))) :
    Calls Try.prog 104 #[.slice A ps.length c] w fun e w' => ∃ A' c', e = .returned (.tuple #[.slice A' (given ps).length c', .bool (vp ps)]) ∧ w'.ownsRow base 49 2 (.slice A' (given ps).length c') (given ps).length (lst (pcell (given ps)) ((given ps).length * 2)) ∧ w.grownBy w' none := by
  have R := Rd.of_lst ho rfl
  unfold given
  cases hv : vp ps
  · rw [if_neg (by simp)]
    go_enter Try.func104, Try.ntmps104
    go_wp2_with fail
    refine (is_impl A c _ ps w hm R (Nat.le_refl _)).mono ?_
    rintro e w1 ⟨rfl, hg1⟩
    go_wp2_with fail
    go_ret2
    exact ⟨none, 0, rfl, World.ownsRow_nil _ _ _ _, hg1⟩
  · rw [if_pos rfl]
    go_enter Try.func104, Try.ntmps104
    go_wp2_with fail
    refine (is_impl A c _ ps w hm R (Nat.le_refl _)).mono ?_
    rintro e w1 ⟨rfl, hg1⟩
    go_wp2_with fail
    go_ret2
    exact ⟨A, c, rfl, own_kept0 ho hg1, hg1⟩

end Go.Proofs.Ytdanlghaiekeaaa.give
