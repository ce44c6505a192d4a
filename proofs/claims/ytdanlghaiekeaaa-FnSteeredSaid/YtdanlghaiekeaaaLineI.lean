/- Places in a line by the program. -/
import Derived.Test.YtdanlghaiekeaaaRows
import Derived.Test.YtdanlghaiekeaaaSlc
import Derived.Test.YtdanlghaiekeaaaSmall
import Derived.Test.YtdanlghaiekeaaaOpens
import Derived.Test.YtdanlghaiekeaaaPlaces
import Derived.Test.YtdanlghaiekeaaaPlaceSet
import Derived.Test.YtdanlghaiekeaaaListP
import Derived.Test.YtdanlghaiekeaaaGrid
import Derived.WalkKit
import Derived.ProofKit
import Derived.OpenShut
import Derived.ShutString
import Derived.ChangeOld
import Derived.Below
import Derived.Lib.Hide
import Derived.BigQuiet
import Derived.Deep.QuietTactic
import Derived.WalkLawsBesides
import Derived.Outline
import Derived.Deep.LoopGhost
namespace Go.Proofs.Ytdanlghaiekeaaa.lineI
open Go.ChangeShapes Go.WideShapes Go.ChangeAt Go.RowKit
open Go.ChangeMaps (open_string shut_string)
set_option linter.unusedVariables false
open Go Go.RowKit
open Go.Proofs.Ytdanlghaiekeaaa.slc Go.Proofs.Ytdanlghaiekeaaa.small Go.Proofs.Ytdanlghaiekeaaa.opens Go.Proofs.Ytdanlghaiekeaaa.places Go.Proofs.Ytdanlghaiekeaaa.listP Go.Proofs.Ytdanlghaiekeaaa.grid

theorem line_impl (c d : Int) : GivesP 22 #[.int .i64 c, .int .i64 d] (gridR c 1 d 0).1 (gridR c 1 d 0).2 := by
  intro w
  go_enter Try.func22, Try.ntmps22
  go_wp2_with fail
  refine (impl_c c 1 d 0 w).mono ?_
  rintro e w1 ⟨A, cc, rfl, ho, hg⟩
  go_wp2_with fail
  go_ret2
  exact ⟨_, _, rfl, ho, hg⟩
/-- Four places in a line. -/
def line4 (d : Int) : List (Int × Int) := [(0 * d, 0), (1 * d, 0), (2 * d, 0), (3 * d, 0)]
theorem line4_vp (d : Int) (h1 : 1 ≤ d) (h2 : d ≤ 1000) : vp (line4 d) = true := by
  refine vp_mk (by simp [line4]) (by simp [line4]) ?_ ?_
  · intro p hp
    simp only [line4, List.mem_cons, List.not_mem_nil, or_false] at hp
    rcases hp with rfl | rfl | rfl | rfl <;> exact decide_eq_true (by dsimp only; omega)
  · simp only [line4, List.nodup_cons, List.mem_cons, List.not_mem_nil, or_false, Prod.mk.injEq, and_true, List.nodup_nil, not_false_eq_true]
    omega
theorem gp4 (d : Int) : gp 4 d 0 1 0 = line4 d := by
  show [(((0 : Nat) : Int) * d, ((0 : Nat) : Int) * 0), (((1 : Nat) : Int) * d, ((0 : Nat) : Int) * 0), (((2 : Nat) : Int) * d, ((0 : Nat) : Int) * 0), (((3 : Nat) : Int) * d, ((0 : Nat) : Int) * 0)] = _
  simp [line4]
theorem line4_is (d : Int) (h1 : 1 ≤ d) (h2 : d ≤ 1000) : gridR 4 1 d 0 = (line4 d, true) := by
  unfold gridR
  rw [if_pos (by omega)]
  have e : gp (4 : Int).toNat d 0 (1 : Int).toNat 0 = line4 d := gp4 d
  rw [e]
  unfold given
  rw [if_pos (line4_vp d h1 h2), line4_vp d h1 h2]

end Go.Proofs.Ytdanlghaiekeaaa.lineI
