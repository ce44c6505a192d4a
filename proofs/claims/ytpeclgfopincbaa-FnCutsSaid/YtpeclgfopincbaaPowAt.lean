/- PowerAt by the program. -/
import Derived.Test.YtpeclgfopincbaaRows
import Derived.Test.YtpeclgfopincbaaSlc
import Derived.Test.YtpeclgfopincbaaSmall
import Derived.Test.YtpeclgfopincbaaOpens
import Derived.Test.YtpeclgfopincbaaPlaceAll
import Derived.Test.YtpeclgfopincbaaSteps
import Derived.Test.YtpeclgfopincbaaFloatAll
import Derived.Test.YtpeclgfopincbaaFWalk
import Derived.Test.YtpeclgfopincbaaFinWalk
import Derived.Test.YtpeclgfopincbaaRoot
import Derived.Test.YtpeclgfopincbaaFlAll
import Derived.Test.YtpeclgfopincbaaPhasor
import Derived.Test.YtpeclgfopincbaaListC
import Derived.Test.YtpeclgfopincbaaListCC
import Derived.Test.YtpeclgfopincbaaSteerNum
import Derived.Test.YtpeclgfopincbaaSineIn
import Derived.Test.YtpeclgfopincbaaPolyNum
import Derived.Test.YtpeclgfopincbaaPolyW
import Derived.Test.YtpeclgfopincbaaPoly1
import Derived.Test.YtpeclgfopincbaaPoly2
import Derived.Test.YtpeclgfopincbaaGAll
import Derived.Test.YtpeclgfopincbaaPowW
import Derived.Test.YtpeclgfopincbaaPolyD
import Derived.Test.YtpeclgfopincbaaSteering
import Derived.Test.YtpeclgfopincbaaDotC
import Derived.Test.YtpeclgfopincbaaPat
import Derived.WalkKit
import Derived.ProofKit
import Derived.OpenShut
import Derived.ShutString
import Derived.ChangeOld
import Derived.Below
import Derived.Lib.Hide
import Derived.BigQuiet
import Derived.Deep.QuietTactic
import Derived.WalkLawsBesides
import Derived.Outline
import Derived.RangeFuncBox
import Derived.Deep.LoopGhost
import Derived.Deep.RegionHeld3
import Derived.Deep.RegionWith
import Derived.Laws.ComplexArith
import Derived.StillTailTactics
namespace Go.Proofs.Ytpeclgfopincbaa.powAt
open Go.ChangeShapes Go.WideShapes Go.ChangeAt Go.RowKit
open Go.ChangeMaps (open_string shut_string)
set_option linter.unusedVariables false
open Go Ieee Go.RowKit
open Go.Proofs.Ytpeclgfopincbaa.slc Go.Proofs.Ytpeclgfopincbaa.small Go.Proofs.Ytpeclgfopincbaa.opens Go.Proofs.Ytpeclgfopincbaa.places Go.Proofs.Ytpeclgfopincbaa.placeSet Go.Proofs.Ytpeclgfopincbaa.listC Go.Proofs.Ytpeclgfopincbaa.steerNum Go.Proofs.Ytpeclgfopincbaa.pat

set_option maxHeartbeats 1600000 in
theorem pow_at (A A' : Option Addr) (c c' B : Nat) (ps : List (Int × Int)) (l : List (Nat × Nat)) (u v : Int) (w : World) (hv : vp ps = true) (hd : dirB u v = true) (hl : l.length = ps.length) (hw : Wk l) (hr : Rd w B A (ps.length * 2) (pcell ps)) (hr' : Rd w B A' ps.length (ccell l)) (hB : B ≤ w.heap.size) :
    Calls Try.prog 20 #[.slice A ps.length c, .slice A' ps.length c', .agg #[.int .i64 u, .int .i64 v]] w fun e w' => e = .returned (.tuple #[.float .f32 (pwd ps l u v), .bool true]) ∧ w.grownBy w' none := by
  have HP := Lib.hid (fun (w1 : World) (g : w.grownBy w1 none) => patof A A' c c' B ps w1 hv (hr.kept0 g hB) (Nat.le_trans hB g.size))
  have HF := Lib.hid (fun (b : Nat) (w1 : World) (g : w.grownBy w1 none) (h : Pf w1 b A A' ps.length c c') => pf_call b A A' c c' B ps l u v w1 hv hd hl hw (hr.kept0 g hB) (hr'.kept0 g hB) (Nat.le_trans hB g.size) h)
  have HD := Lib.hid (fun w1 : World => dir_impl u v w1)
  rw [hd] at HD
  have ga := World.grownBy_alloc w (.cells #[.int .i64 u, .int .i64 v] 36) none
  clear hr hr' hv hw hd
  go_enter Try.func20, Try.ntmps20
  go_wp2_with fail
  refine (HP.out _ ga).mono ?_
  rintro e w1 ⟨b, rfl, hb, hf, g1⟩
  have g2 := ga.trans g1
  have d0 := (boxed2 g1).1
  have d1 := (boxed2 g1).2
  clear HP
  go_wp2_with fail
  refine (HD.out _).mono ?_
  rintro e w2 ⟨rfl, g3⟩
  have d0' := g3.cell d0 (by simp)
  have d1' := g3.cell d1 (by simp)
  have g4 := g2.trans g3
  have HF2 := Lib.hid (HF.out b w2 g4 (hf.kept0 g3))
  clear HF hf g1 g2 g3 d0 d1 hb ga HD
  go_wp2_with fail
  refine HF2.out.mono ?_
  rintro e w3 ⟨rfl, g5⟩
  go_wp2_with fail
  go_ret2
  exact ⟨rfl, g4.trans g5⟩

end Go.Proofs.Ytpeclgfopincbaa.powAt
