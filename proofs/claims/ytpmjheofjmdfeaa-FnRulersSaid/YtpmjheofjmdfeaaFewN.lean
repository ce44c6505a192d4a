/- The fewest marks without holes, by the program. -/
import Derived.Test.YtpmjheofjmdfeaaRows
import Derived.Test.YtpmjheofjmdfeaaSlc
import Derived.Test.YtpmjheofjmdfeaaSmall
import Derived.Test.YtpmjheofjmdfeaaListI
import Derived.Test.YtpmjheofjmdfeaaMarks
import Derived.Test.YtpmjheofjmdfeaaPut
import Derived.Test.YtpmjheofjmdfeaaDiff
import Derived.Test.YtpmjheofjmdfeaaISet
import Derived.Test.YtpmjheofjmdfeaaISize
import Derived.Test.YtpmjheofjmdfeaaHoles
import Derived.Test.YtpmjheofjmdfeaaRuler
import Derived.Test.YtpmjheofjmdfeaaSearch
import Derived.Test.YtpmjheofjmdfeaaExt
import Derived.Test.YtpmjheofjmdfeaaRulN
import Derived.Test.YtpmjheofjmdfeaaLeastM
import Derived.Test.YtpmjheofjmdfeaaHoles2
import Derived.WalkKit
import Derived.ProofKit
import Derived.OpenShut
import Derived.ShutString
import Derived.ChangeOld
import Derived.Below
import Derived.Lib.Hide
import Derived.BigQuiet
import Derived.Deep.QuietTactic
import Derived.WalkLawsBesides
import Derived.Outline
import Derived.RangeFuncCalls
import Derived.Shelf.Abstract
import Derived.RangeFuncBox
import Derived.Deep.QuietTactic
import Derived.BigQuiet
import Derived.Deep.LoopGhost
namespace Go.Proofs.Ytpmjheofjmdfeaa.fewN
open Go.ChangeShapes Go.WideShapes Go.ChangeAt Go.RowKit
open Go.ChangeMaps (open_string shut_string)
set_option linter.unusedVariables false
open Go Go.RowKit Go.Shelf
open Go.Proofs.Ytpmjheofjmdfeaa.slc Go.Proofs.Ytpmjheofjmdfeaa.small Go.Proofs.Ytpmjheofjmdfeaa.listI Go.Proofs.Ytpmjheofjmdfeaa.marks Go.Proofs.Ytpmjheofjmdfeaa.holes Go.Proofs.Ytpmjheofjmdfeaa.holes2 Go.Proofs.Ytpmjheofjmdfeaa.search Go.Proofs.Ytpmjheofjmdfeaa.ext Go.Proofs.Ytpmjheofjmdfeaa.leastM

/-- What may stand, and what is full. -/
def mayB (last : Int) (ms : List Int) : Bool := decide (endOf ms < last) || decide (H ms = [])
def finH (last : Int) (ms : List Int) : Bool := decide (endOf ms = last) && decide (H ms = [])
def atF (cnt : Nat) (last : Int) : Option (List Int) := ds (finH last) (fun _ => true) last (cnt - 1) [0]
theorem di_atF (cnt : Nat) {last : Int} (h : 0 ≤ last) : di (mayB last) last (cnt - 1) [0] = atF cnt last := by
  have h1 := di_ds (wB := mayB last) (fin := finH last) (rB := fun _ => true) (last := last)
    (fun ms _ => by
      unfold mayB finH
      by_cases he : endOf ms = last
      · simp [he]
      · simp [he])
    (fun ms _ hw => by
      unfold mayB at hw
      have := (Bool.or_eq_false_iff.1 hw).1
      exact .inr (by have := of_decide_eq_false this; omega))
    (fun _ _ _ => rfl) (fun ms hf => by unfold finH at hf; exact of_decide_eq_true (Bool.and_eq_true_iff.1 hf).1) (cnt - 1) [0] (good0 h)
  rw [h1, if_pos rfl]
  rfl
theorem full_all : ∀ n : Fin 13, finH (n.val : Int) ((List.range (n.val + 1)).map fun (i : Nat) => (i : Int)) = true := by decide
/-- All marks are full. -/
theorem atF_some {n : Nat} (h : n ≤ 12) : ∃ r, atF (n + 1) (n : Int) = some r := by
  have hf := full_all ⟨n, by omega⟩
  dsimp only at hf
  have e : (List.range (n + 1)).map (fun (i : Nat) => (i : Int)) = [0] ++ (List.range n).map (fun (i : Nat) => (i : Int) + 1) := by
    rw [List.range_succ_eq_map, List.map_cons, List.map_map]
    rfl
  rw [e] at hf
  have hg : GoodM (n : Int) ([0] ++ (List.range n).map (fun (i : Nat) => (i : Int) + 1)) := by
    rw [← e]
    refine ⟨by simp, ?_, fun x hx => ?_⟩
    · rw [List.pairwise_map]
      exact List.pairwise_lt_range.imp (fun h => by omega)
    · obtain ⟨i, hi, rfl⟩ := List.mem_map.1 hx
      have := List.mem_range.1 hi
      omega
  obtain ⟨r, hr⟩ := ds_found (fin := finH (n : Int)) (last := (n : Int)) ((List.range n).map (fun (i : Nat) => (i : Int) + 1)) [0] (good0 (by omega)) hg hf
  rw [List.length_map, List.length_range] at hr
  exact ⟨r, hr⟩

theorem eg_may : ∀ args w, (callFunc 119 args).run Try.prog w = .ok (.enter 119 args) w := enters_of Try.func119 (by kernel_rfl) rfl
set_option maxRecDepth 100000 in
set_option maxHeartbeats 1000000 in
theorem may_wanted (n0 b : Nat) (w0 : World) (n : Nat) (hn : n ≤ 12) (hb : b < n0) (hc : w0.cell? ⟨b, 0, none⟩ = some (.int .i64 (n : Int))) : Wanted n0 w0 119 #[.pointer (some ⟨b, 0, none⟩)] (n : Int) (mayB (n : Int)) := by
  intro ms A c B W hbl _ hg h16 hcap hcm hB hr
  have cb : W.cell? ⟨b, 0, none⟩ = some (.int .i64 (n : Int)) := (hbl.cell (p := ⟨b, 0, none⟩) hb).trans hc
  have g1 := hg.1
  obtain ⟨ad, rfl, _, hce⟩ := hr.at_ (show ms.length - 1 < ms.length by omega)
  have ec : (ints ms).getD (ms.length - 1) undef = .int .i64 (endOf ms) := by simp [List.getD, end_cell g1]
  rw [ec] at hce
  have hv : mB ms = true := decide_eq_true ⟨g1, h16, fun x hx => ⟨(hg.2.2 x hx).1, by have := (hg.2.2 x hx).2; omega⟩, hg.2.1⟩
  have hend := hg.2.2 _ (end_mem g1)
  have HH := Lib.hid (fun (w2 : World) (g : W.grownBy w2 none) => impl_c ms (some ad) c B w2 hcap hcm (hr.kept0 g hB) (Nat.le_trans hB g.size))
  rw [hR_yes hv, hv] at HH
  have q1 : IntKind.i64.wrap ((ms.length : Int) - 1) = ((ms.length - 1 : Nat) : Int) := by rw [IntKind.wrap_i64]; omega
  have q2 : (ms.length : Int) - 1 = ((ms.length - 1 : Nat) : Int) := by omega
  have q3 : (0 : Int) ≤ ((ms.length - 1 : Nat) : Int) := by omega
  have q4 : ((ms.length - 1 : Nat) : Int) < (ms.length : Int) := by omega
  have q5 : IntKind.i64.wrap ((ms.length - 1 : Nat) : Int) = ((ms.length - 1 : Nat) : Int) := by rw [IntKind.wrap_i64]; omega
  have hm : mayB (n : Int) ms = (decide (endOf ms < (n : Int)) || decide (H ms = [])) := rfl
  rw [hm]
  have HL := Lib.hid (show (H ms).length = 0 ↔ H ms = [] from List.length_eq_zero_iff)
  clear hm ec hr hv hbl hc
  generalize endOf ms = E at *
  generalize ms.length - 1 = p at *
  generalize ms.length = L at *
  by_cases hlt : E < (n : Int)
  · rw [decide_eq_true hlt, Bool.true_or]
    go_enter Try.func119, Try.ntmps119
    go_wp2_with fail
    go_quiet (fail)
    go_wp2_with fail
    go_ret
    exact ⟨rfl, gb_drewN _ _ _⟩
  · rw [decide_eq_false hlt, Bool.false_or]
    have hge : (n : Int) ≤ E := by omega
    by_cases hx : H ms = []
    all_goals
      have z : (((H ms).length : Int) == 0) = decide (H ms = []) := by simp [hx]
      first | rw [decide_eq_true hx] at z ⊢ | rw [decide_eq_false hx] at z ⊢
      clear hx HL
      go_enter Try.func119, Try.ntmps119
      go_wp2_with fail
      go_quiet (fail)
      have HH2 := Lib.hid (HH.out (W.drewN nq) (gb_drewN _ _ _))
      have HG := Lib.hid (gb_drewN W nq none)
      clear HH
      generalize W.drewN nq = W2 at *
      generalize (H ms).length = hl at *
      go_wp2_with fail
      refine HH2.out.mono ?_
      rintro e W3 ⟨A3, c3, rfl, _, g3⟩
      have HG3 := Lib.hid (HG.out.trans g3)
      clear HH2 HG g3
      go_wp2_with fail
      go_ret
      exact ⟨rfl, HG3.out⟩

end Go.Proofs.Ytpmjheofjmdfeaa.fewN
