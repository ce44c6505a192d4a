/- Plans by the model. -/
import Derived.Test.YtmemclcoegmjjaaRows
import Derived.Test.YtmemclcoegmjjaaSlc
import Derived.Test.YtmemclcoegmjjaaSmall
import Derived.Test.YtmemclcoegmjjaaOpens
import Derived.Test.YtmemclcoegmjjaaBeams
import Derived.Test.YtmemclcoegmjjaaListBeam
import Derived.Test.YtmemclcoegmjjaaListSlot
import Derived.Test.YtmemclcoegmjjaaPlanNum
import Derived.Test.YtmemclcoegmjjaaSwT
import Derived.Test.YtmemclcoegmjjaaBeamsOk
import Derived.Test.YtmemclcoegmjjaaPlanDue
import Derived.WalkKit
import Derived.ProofKit
import Derived.OpenShut
import Derived.ShutString
import Derived.ChangeOld
import Derived.Below
import Derived.Lib.Hide
import Derived.BigQuiet
import Derived.Deep.QuietTactic
import Derived.WalkLawsBesides
import Derived.Outline
import Derived.Deep.QuietTactic
import Derived.BigQuiet
import Derived.Deep.LoopGhost
import Derived.Deep.RegionWith
import Derived.Deep.RegionHeld3
import Derived.Deep.CutRange
import Derived.Deep.CutBlock
import Derived.Deep.DeepCutAuto
namespace Go.Proofs.Ytmemclcoegmjjaa.planSpec
open Go.ChangeShapes Go.WideShapes Go.ChangeAt Go.RowKit
open Go.ChangeMaps (open_string shut_string)
set_option linter.unusedVariables false
open Go Go.RowKit
open Go.Proofs.Ytmemclcoegmjjaa.slc Go.Proofs.Ytmemclcoegmjjaa.small Go.Proofs.Ytmemclcoegmjjaa.opens Go.Proofs.Ytmemclcoegmjjaa.beams Go.Proofs.Ytmemclcoegmjjaa.listBeam Go.Proofs.Ytmemclcoegmjjaa.planNum Go.Proofs.Ytmemclcoegmjjaa.swT Go.Proofs.Ytmemclcoegmjjaa.beamsOk Go.Proofs.Ytmemclcoegmjjaa.planDue

def cn (ss : List Sl) (k : Nat) (j : Nat) : Value := .int .i64 (cnt ss j k : Nat)
theorem cn_zero (ss : List Sl) (n : Nat) : lst (fun _ => Value.int .i64 0) n = lst (cn ss 0) n := lst_congr fun j _ => by unfold cn cnt; simp
theorem cn_set (ss : List Sl) (k j n : Nat) (hj : (sg ss k).1 = (j : Int)) (hn : j < n) : (lst (cn ss k) n).set j (.int .i64 ((cnt ss j k : Int) + 1)) = lst (cn ss (k + 1)) n := by
  apply List.ext_getElem?
  intro i
  rw [List.getElem?_set]
  by_cases hi : j = i
  · subst hi
    rw [if_pos rfl, if_pos (by rw [lst_len]; exact hn), lst_get _ _ _ hn]
    unfold cn
    rw [show cnt ss j (k + 1) = cnt ss j k + 1 from by show cnt ss j k + _ = _; rw [if_pos hj]]
    simp
  · rw [if_neg hi]
    by_cases h2 : i < n
    · rw [lst_get _ _ _ h2, lst_get _ _ _ h2]
      unfold cn
      rw [show cnt ss i (k + 1) = cnt ss i k from by show cnt ss i k + _ = _; rw [if_neg (by rw [hj]; omega)]; rfl]
    · rw [List.getElem?_eq_none (by rw [lst_len]; omega), List.getElem?_eq_none (by rw [lst_len]; omega)]
theorem q_yes (n lo hi : Int) (w : World) (q : Nat) (h : lo ≤ n) (h2 : n ≤ hi) : Calls Try.prog 122 #[.int .i64 n, .int .i64 lo, .int .i64 hi] (w.drewN q) fun e w' => e = .returned (.bool true) ∧ ∃ m, w' = w.drewN m :=
  Calls.quiet_of_same ((in_yes n lo hi (w.drewN q) h h2).mono (by rintro e w' ⟨rfl, rfl⟩; exact ⟨rfl, rfl⟩))
theorem q_no (n lo hi : Int) (w : World) (q : Nat) (h : n < lo ∨ hi < n) : Calls Try.prog 122 #[.int .i64 n, .int .i64 lo, .int .i64 hi] (w.drewN q) fun e w' => e = .returned (.bool false) ∧ ∃ m, w' = w.drewN m :=
  Calls.quiet_of_same ((in_no n lo hi (w.drewN q) h).mono (by rintro e w' ⟨rfl, rfl⟩; exact ⟨rfl, rfl⟩))
theorem one_no {bs : List Bm} {x y : Int} (h : ¬ (0 ≤ x ∧ x ≤ (bs.length : Int) - 1 ∧ 0 ≤ y ∧ y ≤ 100000)) : one bs (x, y) = false := decide_eq_false h

set_option maxHeartbeats 3200000 in
set_option maxRecDepth 100000 in
theorem slots_spec : True := trivial

end Go.Proofs.Ytmemclcoegmjjaa.planSpec
