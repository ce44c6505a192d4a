/- The shortest rulers, by the program and by the model. -/
import Derived.Test.YtpmjheofjmdfeaaRows
import Derived.Test.YtpmjheofjmdfeaaSlc
import Derived.Test.YtpmjheofjmdfeaaSmall
import Derived.Test.YtpmjheofjmdfeaaListI
import Derived.Test.YtpmjheofjmdfeaaMarks
import Derived.Test.YtpmjheofjmdfeaaPut
import Derived.Test.YtpmjheofjmdfeaaDiff
import Derived.Test.YtpmjheofjmdfeaaISet
import Derived.Test.YtpmjheofjmdfeaaISize
import Derived.Test.YtpmjheofjmdfeaaHoles
import Derived.Test.YtpmjheofjmdfeaaRuler
import Derived.Test.YtpmjheofjmdfeaaSearch
import Derived.Test.YtpmjheofjmdfeaaExt
import Derived.Test.YtpmjheofjmdfeaaRulN
import Derived.Test.YtpmjheofjmdfeaaShortR
import Derived.Test.YtpmjheofjmdfeaaLeastM
import Derived.Test.YtpmjheofjmdfeaaSpecRul
import Derived.WalkKit
import Derived.ProofKit
import Derived.OpenShut
import Derived.ShutString
import Derived.ChangeOld
import Derived.Below
import Derived.Lib.Hide
import Derived.BigQuiet
import Derived.Deep.QuietTactic
import Derived.WalkLawsBesides
import Derived.Outline
import Derived.RangeFuncCalls
import Derived.Shelf.Abstract
import Derived.RangeFuncBox
import Derived.Deep.QuietTactic
import Derived.BigQuiet
import Derived.Deep.LoopGhost
namespace Go.Proofs.Ytpmjheofjmdfeaa.shortA
open Go.ChangeShapes Go.WideShapes Go.ChangeAt Go.RowKit
open Go.ChangeMaps (open_string shut_string)
set_option linter.unusedVariables false
open Go Go.RowKit Go.Shelf
open Go.Proofs.Ytpmjheofjmdfeaa.slc Go.Proofs.Ytpmjheofjmdfeaa.small Go.Proofs.Ytpmjheofjmdfeaa.listI Go.Proofs.Ytpmjheofjmdfeaa.marks Go.Proofs.Ytpmjheofjmdfeaa.ruler Go.Proofs.Ytpmjheofjmdfeaa.search Go.Proofs.Ytpmjheofjmdfeaa.ext Go.Proofs.Ytpmjheofjmdfeaa.rulN Go.Proofs.Ytpmjheofjmdfeaa.shortR Go.Proofs.Ytpmjheofjmdfeaa.leastM Go.Proofs.Ytpmjheofjmdfeaa.specRul

/-- What one length gives. -/
def at_ (cnt : Nat) (last : Int) : Option (List Int) := ds (finL last) rB last (cnt - 1) [0]
theorem rB0 : rB [0] = true := by decide
theorem di_at (cnt : Nat) {last : Int} (h : 0 ≤ last) : di rB last (cnt - 1) [0] = at_ cnt last := by
  have h1 := di_ds (wB := rB) (fin := finL last) (rB := rB) (last := last) (fun ms _ => rfl) (fun ms _ hw => .inl hw) (fun ms _ hw => hw) (fun ms hf => of_decide_eq_true hf) (cnt - 1) [0] (good0 h)
  rw [h1, if_pos rB0]
  rfl
theorem at_none {cnt : Nat} (h1 : 1 ≤ cnt) (h2 : cnt ≤ 16) {last : Int} (h0 : 0 ≤ last) (h : last < pairs cnt) : at_ cnt last = none := by
  cases hd : at_ cnt last with
  | none => rfl
  | some r =>
    obtain ⟨g, hb, hf, hl⟩ := ds_is (cnt - 1) [0] r (good0 h0) rB0 hd
    have hl2 : r.length = cnt := by rw [hl]; simp; omega
    have h3 := (pairs_bd cnt h1 h2).2
    have := ruler_long g (by omega) (by omega) hb
    rw [hl2] at this
    omega
theorem at_len {cnt : Nat} (h1 : 1 ≤ cnt) {last : Int} (h0 : 0 ≤ last) {r : List Int} (h : at_ cnt last = some r) : r.length = cnt := by
  obtain ⟨_, _, _, hl⟩ := ds_is (cnt - 1) [0] r (good0 h0) rB0 h
  rw [hl]; simp; omega
/-- The answer. -/
def srt (cnt : Nat) : Option (List Int) := tryL (at_ cnt) 31 0
theorem tryL_skip {f : Int → Option (List Int)} : ∀ (a b : Nat) (lo : Int), (∀ m, lo ≤ m → m < lo + a → f m = none) → tryL f (a + b) lo = tryL f b (lo + a)
  | 0, b, lo, _ => by rw [Nat.zero_add]; simp
  | a + 1, b, lo, h => by
    rw [show a + 1 + b = (a + b) + 1 by omega]
    show (match f lo with | some r => some r | none => tryL f (a + b) (lo + 1)) = _
    rw [h lo (by omega) (by omega)]
    have := tryL_skip a b (lo + 1) (fun m h1 h2 => h m (by omega) (by omega))
    rw [show lo + ((a + 1 : Nat) : Int) = lo + 1 + (a : Int) by omega]
    exact this
theorem eg_short : ∀ args w, (callFunc 118 args).run Try.prog w = .ok (.enter 118 args) w := enters_of Try.func118 (by kernel_rfl) rfl
theorem short_wanted (n0 : Nat) (w0 : World) {last : Int} (hl : last ≤ 30) : Wanted n0 w0 118 #[] last rB := by
  intro ms A c B W _ _ hg h16 hc _ hB hr
  obtain ⟨ad, rfl, _, _⟩ := hr.at_ (show 0 < ms.length from hg.1)
  exact short_c ad c B ms.length ms last W rfl h16 hg.1 hc hl hg hB hr
set_option maxRecDepth 100000 in
set_option maxHeartbeats 2000000 in
theorem short_impl (cnt : Nat) (w : World) (h1 : 1 ≤ cnt) (h7 : cnt ≤ 7) :
    Calls Try.prog 19 #[.int .i64 (cnt : Int)] w fun e w' => ∃ A c, e = .returned (.tuple #[.slice A ((srt cnt).getD []).length c, .bool (srt cnt).isSome]) ∧ w'.ownsRow w.heap.size 2 1 (.slice A ((srt cnt).getD []).length c) ((srt cnt).getD []).length (ints ((srt cnt).getD [])) ∧ w.grownBy w' none := by
  have hp := pairs_bd cnt h1 (by omega)
  have hpl : pairs cnt ≤ 30 := by
    have : ∀ c : Fin 8, pairs c.val ≤ 30 := by decide
    exact this ⟨cnt, by omega⟩
  obtain ⟨P, hP⟩ : ∃ P : Nat, pairs cnt = (P : Int) := ⟨(pairs cnt).toNat, by omega⟩
  have hs : srt cnt = tryL (at_ cnt) (31 - P) (P : Int) := by
    unfold srt
    rw [show 31 = P + (31 - P) by omega, tryL_skip P (31 - P) 0 (fun m ha hb => at_none h1 (by omega) (by omega) (by omega)), Int.zero_add, show P + (31 - P) - P = 31 - P by omega]
  have HS := Lib.hid hs
  have HPC := Lib.hid (fun w : World => pairs_c cnt w h1 (by omega))
  rw [hP] at HPC
  have HLM := Lib.hid (fun (l : Nat) (hl : l ≤ 30) (wr : World) => di_at cnt (last := (l : Int)) (by omega) ▸ least_c cnt 118 #[] (l : Int) rB wr h1 (by omega) ⟨by omega, by omega⟩ (short_wanted _ wr (by omega)) eg_short)
  have q1 : (1 : Int) ≤ (cnt : Int) := by omega
  have q7 : (cnt : Int) ≤ 7 := by omega
  clear hs hp hpl hP
  generalize srt cnt = S at *
  go_enter Try.func19, Try.ntmps19
  go_wp2_with fail
  refine (within_yes _ _ _ _ q1 q7).mono ?_
  rintro e w' ⟨rfl, rfl⟩
  go_wp2_with fail
  refine (HPC.out _).mono ?_
  rintro e w' ⟨rfl, rfl⟩
  clear HPC
  go_wp2_with fail
  go_loopw [4] (fun lv wr => ∃ j : Nat, j ≤ 31 - P ∧ lv = .int .i64 ((P : Int) + (j : Int)) ∧ S = tryL (at_ cnt) (31 - P - j) ((P : Int) + (j : Int)) ∧ w.grownBy wr none) (fun lv _ => (100 - intOf lv).toNat)
  case atStart => exact ⟨0, Nat.zero_le _, by simp, by simpa using HS.out, World.grownBy.refl _ _⟩
  case round =>
    obtain ⟨j, hj, rfl, htr, hgr⟩ := hrel
    by_cases hlt : (P : Int) + (j : Int) ≤ 30
    · obtain ⟨l, hl⟩ : ∃ l : Nat, (P : Int) + (j : Int) = (l : Int) := ⟨P + j, by omega⟩
      have hnx : tryL (at_ cnt) (31 - P - j) ((P : Int) + (j : Int)) = match at_ cnt ((P : Int) + (j : Int)) with | some r => some r | none => tryL (at_ cnt) (31 - P - (j + 1)) ((P : Int) + ((j + 1 : Nat) : Int)) := by
        rw [show 31 - P - j = (31 - P - (j + 1)) + 1 by omega, show (P : Int) + ((j + 1 : Nat) : Int) = (P : Int) + (j : Int) + 1 by omega]
        rfl
      have hj2 : j + 1 ≤ 31 - P := by omega
      have HJ := Lib.hid (show (P : Int) + ((j + 1 : Nat) : Int) = (l : Int) + 1 by omega)
      rw [hl] at hnx htr
      have HN := Lib.hid (htr.trans hnx)
      have HC := Lib.hid (HLM.out l (by omega) wr)
      have hb := hgr.size
      rw [hl]
      rw [hl] at hlt
      clear htr hnx hl
      generalize at_ cnt (l : Int) = D at *
      go_wp2_with fail
      refine HC.out.mono ?_
      rintro e w6 ⟨A6, c6, rfl, ho6, g6⟩
      have HF := Lib.hid (And.intro ho6 (hgr.trans g6))
      clear ho6 g6 hgr HC
      cases D with
      | some r =>
        have HR := Lib.hid (show S = some r from HN.out)
        clear HN
        go_wp2_with fail
        go_ret2
        rw [HR.out]
        exact ⟨A6, c6, rfl, own_mono HF.out.1 hb, HF.out.2⟩
      | none =>
        have HR := Lib.hid (show S = tryL (at_ cnt) (31 - P - (j + 1)) ((P : Int) + ((j + 1 : Nat) : Int)) from HN.out)
        clear HN
        go_wp2_with fail
        go_roundw
        case rel => exact ⟨j + 1, hj2, by rw [HJ.out], HR.out, HF.out.2⟩
        case measure => simp [intOf]; omega
    · have hz : 31 - P - j = 0 := by omega
      rw [hz] at htr
      have HR := Lib.hid (show S = none from htr)
      clear htr hz HS
      generalize (P : Int) + (j : Int) = m at *
      go_wp2_with fail
      go_ret2
      rw [HR.out]
      exact ⟨none, 0, rfl, World.ownsRow_nil _ _ _ _, hgr⟩

/-! ## the model -/
set_option maxRecDepth 100000 in
set_option maxHeartbeats 2000000 in
theorem rul_top : True := trivial
set_option maxRecDepth 100000 in
set_option maxHeartbeats 2000000 in
theorem short_spec : True := trivial

end Go.Proofs.Ytpmjheofjmdfeaa.shortA
