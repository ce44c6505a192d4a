/- Items of lists, by the program. -/
import Derived.Test.YthlfclnfkgiddaaDoorRows
import Derived.Test.YthlfclnfkgiddaaDoorSlc
import Derived.WalkKit
import Derived.ProofKit
import Derived.OpenShut
import Derived.ShutString
import Derived.ChangeOld
import Derived.Below
import Derived.Lib.Hide
import Derived.BigQuiet
import Derived.Deep.QuietTactic
import Derived.WalkLawsBesides
import Derived.Outline
namespace Go.Proofs.YthlfclnfkgiddaaDoor.itemC
open Go.ChangeShapes Go.WideShapes Go.ChangeAt Go.RowKit
open Go.ChangeMaps (open_string shut_string)
set_option linter.unusedVariables false
open Go Go.RowKit
open Go.Proofs.YthlfclnfkgiddaaDoor.slc

theorem item_yes (n : Int) (w : World) (h : -1000000000000000 ≤ n) (h2 : n ≤ 1000000000000000) :
    Calls Tryd.prog 125 #[.int .i64 n] w fun e w' => e = .returned (.bool true) ∧ w = w' := by
  go_enter Tryd.func125, Tryd.ntmps125
  go_wp2
  go_ret
  simp_all
theorem item_no (n : Int) (w : World) (h : n < -1000000000000000 ∨ 1000000000000000 < n) :
    Calls Tryd.prog 125 #[.int .i64 n] w fun e w' => e = .returned (.bool false) ∧ w = w' := by
  by_cases hn : n < -1000000000000000
  · go_enter Tryd.func125, Tryd.ntmps125
    go_wp2
    go_ret
    simp_all
  · have h3 : 1000000000000000 < n := by omega
    clear h
    go_enter Tryd.func125, Tryd.ntmps125
    go_wp2
    go_ret
    simp_all

end Go.Proofs.YthlfclnfkgiddaaDoor.itemC
