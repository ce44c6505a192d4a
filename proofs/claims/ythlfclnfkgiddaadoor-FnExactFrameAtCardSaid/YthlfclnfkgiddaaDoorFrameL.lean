/- A frame in a law: compared, marked, held. -/
import Derived.Test.YthlfclnfkgiddaaDoorRows
import Derived.Test.YthlfclnfkgiddaaDoorSlc
import Derived.Test.YthlfclnfkgiddaaDoorSmall
import Derived.Test.YthlfclnfkgiddaaDoorFloats
import Derived.Test.YthlfclnfkgiddaaDoorRound
import Derived.Test.YthlfclnfkgiddaaDoorValues
import Derived.Test.YthlfclnfkgiddaaDoorConv
import Derived.Test.YthlfclnfkgiddaaDoorFWalk
import Derived.Test.YthlfclnfkgiddaaDoorPhase
import Derived.Test.YthlfclnfkgiddaaDoorSine
import Derived.Test.YthlfclnfkgiddaaDoorPhasor
import Derived.Test.YthlfclnfkgiddaaDoorFinWalk
import Derived.Test.YthlfclnfkgiddaaDoorFloat2
import Derived.Test.YthlfclnfkgiddaaDoorFloat3
import Derived.Test.YthlfclnfkgiddaaDoorListC
import Derived.Test.YthlfclnfkgiddaaDoorListCC
import Derived.Test.YthlfclnfkgiddaaDoorWordN
import Derived.Test.YthlfclnfkgiddaaDoorNumN
import Derived.Test.YthlfclnfkgiddaaDoorWordS
import Derived.Test.YthlfclnfkgiddaaDoorFrameM
import Derived.WalkKit
import Derived.ProofKit
import Derived.OpenShut
import Derived.ShutString
import Derived.ChangeOld
import Derived.Below
import Derived.Lib.Hide
import Derived.BigQuiet
import Derived.Deep.QuietTactic
import Derived.WalkLawsBesides
import Derived.Outline
import Derived.Deep.QuietTactic
import Derived.BigQuiet
import Derived.Deep.LoopGhost
import Derived.Deep.RegionHeld3
import Derived.Laws.ComplexArith
namespace Go.Proofs.YthlfclnfkgiddaaDoor.frameL
open Go.ChangeShapes Go.WideShapes Go.ChangeAt Go.RowKit
open Go.ChangeMaps (open_string shut_string)
set_option linter.unusedVariables false
open Go Ieee Go.RowKit
open Go.Proofs.YthlfclnfkgiddaaDoor.slc Go.Proofs.YthlfclnfkgiddaaDoor.small Go.Proofs.YthlfclnfkgiddaaDoor.listC Go.Proofs.YthlfclnfkgiddaaDoor.listCC Go.Proofs.YthlfclnfkgiddaaDoor.frameM

theorem same_refl (l : List (Nat × Nat)) : SameL l l := ⟨rfl, fun _ _ => ⟨rfl, rfl⟩⟩
set_option maxRecDepth 100000 in
theorem eqFr (idx : Int) (A A' : Option Addr) (c d : Nat) (xs : List (Nat × Nat)) (w : World) (hn : xs.length ≤ 1000) (ha : Rd w w.heap.size A xs.length (ccell xs)) (hb : Rd w w.heap.size A' xs.length (ccell xs)) :
    Calls Tryd.prog 40 #[.agg #[.int .i64 idx, .slice A xs.length c], .agg #[.int .i64 idx, .slice A' xs.length d]] w fun e w' => e = .returned (.bool true) ∧ w.grownBy w' none := by
  have g1 := World.grownBy_alloc w (.cells #[.int .i64 idx, .slice A xs.length c] 51) none
  have g2 := World.grownBy_alloc (w.alloc (.cells #[.int .i64 idx, .slice A xs.length c] 51)) (.cells #[.int .i64 idx, .slice A' xs.length d] 51) none
  have g := g1.trans g2
  have HE := Lib.hid (eqC_can A A' c d w.heap.size xs xs _ (by omega) g.size (same_refl xs) (ha.kept0 g (Nat.le_refl _)) (hb.kept0 g (Nat.le_refl _)))
  have HG := Lib.hid g
  clear ha hb g1 g2 g
  go_enter Tryd.func40, Tryd.ntmps40
  go_wp2_with fail
  refine HE.out.mono ?_
  rintro e w' ⟨rfl, g3⟩
  go_wp2_with fail
  go_ret
  exact ⟨rfl, HG.out.trans g3⟩
set_option maxRecDepth 100000 in
theorem markFr (idx : Int) (A : Option Addr) (c base : Nat) (xs : List (Nat × Nat)) (w : World) (hn : xs.length ≤ 1000) (ho : w.ownsRow base 110 1 (.slice A xs.length c) xs.length (lst (ccell xs) xs.length)) (hb : base ≤ w.heap.size) :
    Calls Tryd.prog 41 #[.agg #[.int .i64 idx, .slice A xs.length c], .int .i64 1] w fun en w' => en = .returned (.int .i64 (xs.length + 1)) ∧ w'.ownsRow base 110 1 (.slice A xs.length c) xs.length (lst (mkc 1) xs.length) ∧ w.grownBy w' (A.map Addr.block) := by
  have g1 := World.grownBy_alloc w (.cells #[.int .i64 idx, .slice A xs.length c] 51) none
  have HE := Lib.hid (markC1 A xs.length c base 110 (ccell xs) _ (by omega) (own_kept0 ho g1))
  have HG := Lib.hid g1
  clear ho g1
  go_enter Tryd.func41, Tryd.ntmps41
  go_wp2_with fail
  refine HE.out.mono ?_
  rintro e w' ⟨rfl, h2, g3⟩
  have HO := Lib.hid (And.intro h2 g3)
  clear h2 g3
  go_wp2_with fail
  go_ret
  exact ⟨rfl, HO.out.1, (show w.grownBy _ (A.map Addr.block) from (World.grownBy_alloc w _ _).trans HO.out.2)⟩
set_option maxRecDepth 100000 in
theorem heldFr (idx : Int) (A : Option Addr) (c B : Nat) (n : Nat) (w : World) (hn : n ≤ 1000) (ha : Rd w B A n (mkc 1)) (hB : B ≤ w.heap.size) :
    Calls Tryd.prog 42 #[.agg #[.int .i64 idx, .slice A n c], .int .i64 1] w fun en w' => en = .returned (.int .i64 (n + 1)) ∧ w.grownBy w' none := by
  have g1 := World.grownBy_alloc w (.cells #[.int .i64 idx, .slice A n c] 51) none
  have HE := Lib.hid (heldC1 A n c B _ (by omega) (ha.kept0 g1 hB))
  have HG := Lib.hid g1
  have k0 : ¬ (n : Int) + 1 < 0 := by omega
  clear ha g1
  go_enter Tryd.func42, Tryd.ntmps42
  go_wp2_with fail
  refine HE.out.mono ?_
  rintro e w' ⟨rfl, rfl⟩
  go_wp2_with fail
  go_ret
  exact ⟨rfl, HG.out⟩

end Go.Proofs.YthlfclnfkgiddaaDoor.frameL
