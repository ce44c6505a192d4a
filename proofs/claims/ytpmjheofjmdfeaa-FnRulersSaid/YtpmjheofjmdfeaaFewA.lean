/- The fewest marks, by the program and by the model. -/
import Derived.Test.YtpmjheofjmdfeaaRows
import Derived.Test.YtpmjheofjmdfeaaSlc
import Derived.Test.YtpmjheofjmdfeaaSmall
import Derived.Test.YtpmjheofjmdfeaaListI
import Derived.Test.YtpmjheofjmdfeaaMarks
import Derived.Test.YtpmjheofjmdfeaaPut
import Derived.Test.YtpmjheofjmdfeaaDiff
import Derived.Test.YtpmjheofjmdfeaaISet
import Derived.Test.YtpmjheofjmdfeaaISize
import Derived.Test.YtpmjheofjmdfeaaHoles
import Derived.Test.YtpmjheofjmdfeaaRuler
import Derived.Test.YtpmjheofjmdfeaaSearch
import Derived.Test.YtpmjheofjmdfeaaExt
import Derived.Test.YtpmjheofjmdfeaaRulN
import Derived.Test.YtpmjheofjmdfeaaLeastM
import Derived.Test.YtpmjheofjmdfeaaHoles2
import Derived.Test.YtpmjheofjmdfeaaFewN
import Derived.Test.YtpmjheofjmdfeaaSpecRul
import Derived.WalkKit
import Derived.ProofKit
import Derived.OpenShut
import Derived.ShutString
import Derived.ChangeOld
import Derived.Below
import Derived.Lib.Hide
import Derived.BigQuiet
import Derived.Deep.QuietTactic
import Derived.WalkLawsBesides
import Derived.Outline
import Derived.RangeFuncCalls
import Derived.Shelf.Abstract
import Derived.RangeFuncBox
import Derived.Deep.QuietTactic
import Derived.BigQuiet
import Derived.Deep.LoopGhost
namespace Go.Proofs.Ytpmjheofjmdfeaa.fewA
open Go.ChangeShapes Go.WideShapes Go.ChangeAt Go.RowKit
open Go.ChangeMaps (open_string shut_string)
set_option linter.unusedVariables false
open Go Go.RowKit Go.Shelf
open Go.Proofs.Ytpmjheofjmdfeaa.slc Go.Proofs.Ytpmjheofjmdfeaa.small Go.Proofs.Ytpmjheofjmdfeaa.listI Go.Proofs.Ytpmjheofjmdfeaa.marks Go.Proofs.Ytpmjheofjmdfeaa.holes Go.Proofs.Ytpmjheofjmdfeaa.holes2 Go.Proofs.Ytpmjheofjmdfeaa.search Go.Proofs.Ytpmjheofjmdfeaa.ext Go.Proofs.Ytpmjheofjmdfeaa.leastM Go.Proofs.Ytpmjheofjmdfeaa.fewN Go.Proofs.Ytpmjheofjmdfeaa.specRul

/-- What one count gives. -/
def gF (n : Nat) (c : Int) : Option (List Int) := atF c.toNat (n : Int)
def frF (n : Nat) : Option (List Int) := tryL (gF n) (n + 1) 1
theorem frF_some {n : Nat} (h : n ≤ 12) : ∃ r, frF n = some r := by
  obtain ⟨r, hr⟩ := atF_some h
  exact tryL_found (f := gF n) (m := ((n + 1 : Nat) : Int)) (n + 1) 1 (by omega) (by omega) (by unfold gF; rw [Int.toNat_natCast]; exact hr)
theorem gF_len {n : Nat} {c : Int} (hc : 1 ≤ c) {r : List Int} (h : gF n c = some r) : r.length = c.toNat := by
  obtain ⟨_, _, _, hl⟩ := ds_is (c.toNat - 1) [0] r (good0 (by omega)) rfl h
  rw [hl]; simp; omega
set_option maxRecDepth 100000 in
set_option maxHeartbeats 2000000 in
theorem few_impl (n : Nat) (w : World) (h12 : n ≤ 12) :
    Calls Try.prog 21 #[.int .i64 (n : Int)] w fun e w' => ∃ A c, e = .returned (.tuple #[.slice A ((frF n).getD []).length c, .bool (frF n).isSome]) ∧ w'.ownsRow w.heap.size 2 1 (.slice A ((frF n).getD []).length c) ((frF n).getD []).length (ints ((frF n).getD [])) ∧ w.grownBy w' none := by
  have HS := Lib.hid (show frF n = tryL (gF n) (n + 1) 1 from rfl)
  have HLM := Lib.hid (fun (k : Nat) (h1 : 1 ≤ k) (hk : k ≤ 13) (wr : World) (hb : w.heap.size < wr.heap.size) (hc : wr.cell? ⟨w.heap.size, 0, none⟩ = some (.int .i64 (n : Int))) => di_atF k (last := (n : Int)) (by omega) ▸ least_c k 119 #[.pointer (some ⟨w.heap.size, 0, none⟩)] (n : Int) (mayB (n : Int)) wr h1 (by omega) ⟨by omega, by omega⟩ (may_wanted wr.heap.size w.heap.size wr n h12 hb hc) eg_may)
  have q0 : (0 : Int) ≤ (n : Int) := by omega
  have q1 : (n : Int) ≤ 12 := by omega
  have b0 := Boxed.new w 2 (.int .i64 (n : Int))
  have ga := World.grownBy_alloc w (.cells #[.int .i64 (n : Int)] 2) none
  have hsz : w.heap.size < (w.alloc (.cells #[.int .i64 (n : Int)] 2)).heap.size := by simp
  have c0 := b0.cell
  generalize frF n = S at *
  go_enter Try.func21, Try.ntmps21
  go_wp2_with fail
  refine (within_yes _ _ _ _ q0 q1).mono ?_
  rintro e w' ⟨rfl, rfl⟩
  have HB := Lib.hid (And.intro b0 (And.intro ga hsz))
  clear b0 ga hsz
  generalize hWa : w.alloc (.cells #[.int .i64 (n : Int)] 2) = Wa at *
  go_wp2_with fail
  go_loopw [5] (fun cv wr => ∃ j : Nat, j ≤ n + 1 ∧ cv = .int .i64 ((j : Int) + 1) ∧ S = tryL (gF n) (n + 1 - j) ((j : Int) + 1) ∧ Wa.grownBy wr none) (fun cv _ => (100 - intOf cv).toNat)
  case atStart => exact ⟨0, Nat.zero_le _, rfl, by simpa using HS.out, World.grownBy.refl _ _⟩
  case round =>
    obtain ⟨j, hj, rfl, htr, hgr⟩ := hrel
    have cb : wr.cell? ⟨w.heap.size, 0, none⟩ = some (.int .i64 (n : Int)) := hgr.cell c0 (by simp)
    by_cases hlt : j < n + 1
    · have hnx : tryL (gF n) (n + 1 - j) ((j : Int) + 1) = match gF n ((j : Int) + 1) with | some r => some r | none => tryL (gF n) (n + 1 - (j + 1)) (((j + 1 : Nat) : Int) + 1) := by
        rw [show n + 1 - j = (n + 1 - (j + 1)) + 1 by omega]
        rfl
      have hg : gF n ((j : Int) + 1) = atF (j + 1) (n : Int) := by unfold gF; rw [show ((j : Int) + 1).toNat = j + 1 by omega]
      rw [hg] at hnx
      have HN := Lib.hid (htr.trans hnx)
      have HC := Lib.hid (HLM.out (j + 1) (by omega) (by omega) wr (Nat.lt_of_lt_of_le HB.out.2.2 hgr.size) cb)
      have k1 : (j : Int) + 1 ≤ (n : Int) + 1 := by omega
      have hbs := Nat.le_trans (Nat.le_of_lt HB.out.2.2) hgr.size
      clear htr hnx hg
      rw [Int.natCast_add] at HC
      generalize atF (j + 1) (n : Int) = D at *
      go_wp2_with fail
      refine HC.out.mono ?_
      rintro e w6 ⟨A6, c6, rfl, ho6, g6⟩
      have HF := Lib.hid (And.intro ho6 (hgr.trans g6))
      clear ho6 g6 hgr HC cb
      cases D with
      | some r =>
        have HR := Lib.hid (show S = some r from HN.out)
        clear HN
        go_wp2_with fail
        go_ret2
        rw [HR.out]
        exact ⟨A6, c6, rfl, own_mono HF.out.1 hbs, HB.out.2.1.trans HF.out.2⟩
      | none =>
        have HR := Lib.hid (show S = tryL (gF n) (n + 1 - (j + 1)) (((j + 1 : Nat) : Int) + 1) from HN.out)
        clear HN
        go_wp2_with fail
        go_roundw
        case rel => exact ⟨j + 1, by omega, by go_num, HR.out, HF.out.2⟩
        case measure => simp [intOf]; omega
    · obtain rfl : j = n + 1 := by omega
      rw [Nat.sub_self] at htr
      have HR := Lib.hid (show S = none from htr)
      have k1 : (n : Int) + 1 < ((n + 1 : Nat) : Int) + 1 := by omega
      clear htr HS
      generalize ((n + 1 : Nat) : Int) + 1 = m at *
      go_wp2_with fail
      go_ret2
      rw [HR.out]
      exact ⟨none, 0, rfl, World.ownsRow_nil _ _ _ _, HB.out.2.1.trans hgr⟩

end Go.Proofs.Ytpmjheofjmdfeaa.fewA
