/- IsPlan by the model; lists of integers as cells. -/
import Derived.Test.YtkjmlpdbnnmlhaaRows
import Derived.Test.YtkjmlpdbnnmlhaaSlc
import Derived.Test.YtkjmlpdbnnmlhaaSmall
import Derived.Test.YtkjmlpdbnnmlhaaOpens
import Derived.Test.YtkjmlpdbnnmlhaaBeams
import Derived.Test.YtkjmlpdbnnmlhaaListBeam
import Derived.Test.YtkjmlpdbnnmlhaaListSlot
import Derived.Test.YtkjmlpdbnnmlhaaPlanNum
import Derived.Test.YtkjmlpdbnnmlhaaSwT
import Derived.Test.YtkjmlpdbnnmlhaaBeamsOk
import Derived.Test.YtkjmlpdbnnmlhaaPlanDue
import Derived.Test.YtkjmlpdbnnmlhaaPlanIs
import Derived.Test.YtkjmlpdbnnmlhaaPlanSpec
import Derived.WalkKit
import Derived.ProofKit
import Derived.OpenShut
import Derived.ShutString
import Derived.ChangeOld
import Derived.Below
import Derived.Lib.Hide
import Derived.BigQuiet
import Derived.Deep.QuietTactic
import Derived.WalkLawsBesides
import Derived.Outline
import Derived.Deep.QuietTactic
import Derived.BigQuiet
import Derived.Deep.LoopGhost
namespace Go.Proofs.Ytkjmlpdbnnmlhaa.planTop
open Go.ChangeShapes Go.WideShapes Go.ChangeAt Go.RowKit
open Go.ChangeMaps (open_string shut_string)
set_option linter.unusedVariables false
open Go Go.RowKit
open Go.Proofs.Ytkjmlpdbnnmlhaa.slc Go.Proofs.Ytkjmlpdbnnmlhaa.small Go.Proofs.Ytkjmlpdbnnmlhaa.opens Go.Proofs.Ytkjmlpdbnnmlhaa.beams Go.Proofs.Ytkjmlpdbnnmlhaa.listBeam Go.Proofs.Ytkjmlpdbnnmlhaa.planNum Go.Proofs.Ytkjmlpdbnnmlhaa.beamsOk Go.Proofs.Ytkjmlpdbnnmlhaa.planDue Go.Proofs.Ytkjmlpdbnnmlhaa.planIs Go.Proofs.Ytkjmlpdbnnmlhaa.planSpec

set_option maxHeartbeats 800000 in
set_option maxRecDepth 100000 in
theorem is_spec (A : Option Addr) (c : Nat) (A' : Option Addr) (c' B : Nat) (bs : List Bm) (ss : List Sl) (w : World) (hm : bs.length ≤ 9223372036854775807) (hm' : ss.length ≤ 9223372036854775807) (hr : Rd w B A (bs.length * 4) (bcell bs)) (hr' : Rd w B A' (ss.length * 2) (pcell ss)) (hB : B ≤ w.heap.size) :
    Calls Try.prog 32 #[.slice A bs.length c, .slice A' ss.length c'] w fun e w' => e = .returned (.bool (pl bs ss)) ∧ w.grownBy w' none := by
  have HA0 := are_spec A c B bs w hm hr hB
  cases ha : ab bs
  · rw [pl_ab ha]
    rw [ha] at HA0
    have HA := Lib.hid HA0
    clear HA0 hr hr' ha
    go_enter Try.func32, Try.ntmps32
    go_wp2_with fail
    refine HA.out.mono ?_
    rintro e w1 ⟨rfl, g1⟩
    go_wp2_with fail
    go_ret
    exact ⟨rfl, g1⟩
  · rw [ha] at HA0
    have HA := Lib.hid HA0
    have HS := Lib.hid (fun (w' : World) (hg : w.grownBy w' none) => slots_spec A c A' c' B bs ss w' (BsOk.of ha) hm' (hr.kept0 hg hB) (hr'.kept0 hg hB) (Nat.le_trans hB hg.size))
    have HP := Lib.hid (show pl bs ss = sp bs ss by unfold pl; rw [ha]; simp)
    clear HA0 hr hr' ha
    go_enter Try.func32, Try.ntmps32
    go_wp2_with fail
    refine HA.out.mono ?_
    rintro e w1 ⟨rfl, g1⟩
    go_wp2_with fail
    refine (HS.out _ g1).mono ?_
    rintro e w2 ⟨rfl, g2⟩
    go_wp2_with fail
    go_ret
    exact ⟨ret_bool (by rw [HP.out]), g1.trans g2⟩

/-- The cells of a list of integers. -/
def cls (xs : List Int) (j : Nat) : Value := (ints xs).getD j undef
theorem cls_lst (xs : List Int) : lst (cls xs) xs.length = ints xs := by
  have h := lst_of (ints xs)
  rw [ints_len] at h
  exact h
theorem cls_ints (xs : List Int) : Ints (cls xs) xs.length := Ints.of xs xs.length (Nat.le_refl _)
theorem cls_at (xs : List Int) {j : Nat} (hj : j < xs.length) : cls xs j = .int .i64 (xs.getD j 0) := by
  rw [show cls xs j = .int .i64 xs[j] from ints_getD xs j hj]
  simp [List.getD, hj]
/-- A list by its index. -/
def lof (f : Nat → Int) (n : Nat) : List Int := (List.range n).map f
theorem lof_len (f : Nat → Int) (n : Nat) : (lof f n).length = n := by simp [lof]
theorem lof_cls (f : Nat → Int) (n : Nat) : lst (fun k => Value.int .i64 (f k)) n = lst (cls (lof f n)) n := lst_congr fun j hj => by
  rw [show cls (lof f n) j = .int .i64 ((lof f n).getD j 0) from cls_at _ (by rw [lof_len]; exact hj)]
  simp [lof, List.getD, hj]

end Go.Proofs.Ytkjmlpdbnnmlhaa.planTop
