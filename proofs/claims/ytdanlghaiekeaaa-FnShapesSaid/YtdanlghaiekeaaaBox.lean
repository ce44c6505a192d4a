/- The box around places, by both. -/
import Derived.Test.YtdanlghaiekeaaaRows
import Derived.Test.YtdanlghaiekeaaaSlc
import Derived.Test.YtdanlghaiekeaaaSmall
import Derived.Test.YtdanlghaiekeaaaOpens
import Derived.Test.YtdanlghaiekeaaaPlaces
import Derived.Test.YtdanlghaiekeaaaPlaceSet
import Derived.Test.YtdanlghaiekeaaaListP
import Derived.WalkKit
import Derived.ProofKit
import Derived.OpenShut
import Derived.ShutString
import Derived.ChangeOld
import Derived.Below
import Derived.Lib.Hide
import Derived.BigQuiet
import Derived.Deep.QuietTactic
import Derived.WalkLawsBesides
import Derived.Outline
import Derived.Deep.QuietTactic
import Derived.BigQuiet
import Derived.Deep.LoopGhost
import Derived.Deep.RegionHeld3
import Derived.Deep.RegionWith
namespace Go.Proofs.Ytdanlghaiekeaaa.box
open Go.ChangeShapes Go.WideShapes Go.ChangeAt Go.RowKit
open Go.ChangeMaps (open_string shut_string)
set_option linter.unusedVariables false
open Go Go.RowKit
open Go.Proofs.Ytdanlghaiekeaaa.slc Go.Proofs.Ytdanlghaiekeaaa.small Go.Proofs.Ytdanlghaiekeaaa.opens Go.Proofs.Ytdanlghaiekeaaa.places Go.Proofs.Ytdanlghaiekeaaa.placeSet Go.Proofs.Ytdanlghaiekeaaa.listP

theorem eqPl_true : True := trivial

def mn (a b : Int) : Int := if a < b then a else b
def mx (a b : Int) : Int := if b < a then a else b
theorem min_spec : True := trivial
theorem max_spec : True := trivial

/-- The place with the least x and the least y of the first k + 1 places; with the greatest. -/
def lx (ps : List (Int × Int)) : Nat → Int | 0 => (ps.getD 0 (0, 0)).1 | k + 1 => mn (lx ps k) (ps.getD k (0, 0)).1
def ly (ps : List (Int × Int)) : Nat → Int | 0 => (ps.getD 0 (0, 0)).2 | k + 1 => mn (ly ps k) (ps.getD k (0, 0)).2
def hx (ps : List (Int × Int)) : Nat → Int | 0 => (ps.getD 0 (0, 0)).1 | k + 1 => mx (hx ps k) (ps.getD k (0, 0)).1
def hy (ps : List (Int × Int)) : Nat → Int | 0 => (ps.getD 0 (0, 0)).2 | k + 1 => mx (hy ps k) (ps.getD k (0, 0)).2
theorem mn_self (a : Int) : mn a a = a := by unfold mn; split <;> rfl
theorem mx_self (a : Int) : mx a a = a := by unfold mx; split <;> rfl

end Go.Proofs.Ytdanlghaiekeaaa.box
