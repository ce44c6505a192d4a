/- Draws of valid places from the bytes of an input. -/
import Derived.Test.YtdanlghaiekeaaaRows
import Derived.Test.YtdanlghaiekeaaaSlc
import Derived.Test.YtdanlghaiekeaaaSmall
import Derived.Test.YtdanlghaiekeaaaOpens
import Derived.Test.YtdanlghaiekeaaaPlaces
import Derived.Test.YtdanlghaiekeaaaPlaceSet
import Derived.Test.YtdanlghaiekeaaaListP
import Derived.Test.YtdanlghaiekeaaaR8
import Derived.Test.YtdanlghaiekeaaaSrc
import Derived.Test.YtdanlghaiekeaaaSrcW
import Derived.Test.YtdanlghaiekeaaaDrawOk
import Derived.WalkKit
import Derived.ProofKit
import Derived.OpenShut
import Derived.ShutString
import Derived.ChangeOld
import Derived.Below
import Derived.Lib.Hide
import Derived.BigQuiet
import Derived.Deep.QuietTactic
import Derived.WalkLawsBesides
import Derived.Outline
import Derived.Deep.LoopGhost
namespace Go.Proofs.Ytdanlghaiekeaaa.drawR8
open Go.ChangeShapes Go.WideShapes Go.ChangeAt Go.RowKit
open Go.ChangeMaps (open_string shut_string)
set_option linter.unusedVariables false
open Go Go.RowKit
open Go.Proofs.Ytdanlghaiekeaaa.slc Go.Proofs.Ytdanlghaiekeaaa.opens Go.Proofs.Ytdanlghaiekeaaa.places Go.Proofs.Ytdanlghaiekeaaa.listP Go.Proofs.Ytdanlghaiekeaaa.r8 Go.Proofs.Ytdanlghaiekeaaa.src Go.Proofs.Ytdanlghaiekeaaa.srcW Go.Proofs.Ytdanlghaiekeaaa.drawOk

theorem places_is (A : Option Addr) (c : Nat) (z : List Int) (w : World) (hl : z.length ≤ 1048576) (hz : Byt z) (hr : Rd w w.heap.size A z.length (bt z)) :
    Calls Try.prog 31 #[.slice A z.length c] w fun e w' => ∃ (ps : List (Int × Int)) (A' : Option Addr) (c' : Nat), vp ps = true ∧ e = .returned (.slice A' ps.length c') ∧ w'.ownsRow w.heap.size 49 2 (.slice A' ps.length c') ps.length (lst (pcell ps) (ps.length * 2)) ∧ w.grownBy w' none := by
  go_enter Try.func31, Try.ntmps31
  go_wp2_with fail
  refine (from_is A z.length c w).mono ?_
  rintro e w0 ⟨rfl, hs0, hg0⟩
  have hd := draw_ok A c w.heap.size w.heap.size 0 z w0 (by omega) hl hz (hr.kept0 hg0 (Nat.le_refl _)) (Nat.le_refl _) hs0
  have HD := Lib.hid hd
  have hlt := hs0.lt
  clear hd
  go_wp2_with fail
  refine HD.out.mono ?_
  rintro e w1 ⟨ps, A1, c1, hv, rfl, ho, hg⟩
  go_wp2_with fail
  go_ret
  exact ⟨ps, A1, c1, hv, rfl, own_mono ho (Nat.le_of_lt hlt), gb_new hg0 hg (fun g e => by injection e with e; omega)⟩

end Go.Proofs.Ytdanlghaiekeaaa.drawR8
