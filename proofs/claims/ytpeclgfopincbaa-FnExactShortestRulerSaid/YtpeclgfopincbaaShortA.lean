/- The shortest rulers, by the program and by the model. -/
import Derived.Test.YtpeclgfopincbaaRows
import Derived.Test.YtpeclgfopincbaaSlc
import Derived.Test.YtpeclgfopincbaaSmall
import Derived.Test.YtpeclgfopincbaaListI
import Derived.Test.YtpeclgfopincbaaMarks
import Derived.Test.YtpeclgfopincbaaPut
import Derived.Test.YtpeclgfopincbaaDiff
import Derived.Test.YtpeclgfopincbaaISet
import Derived.Test.YtpeclgfopincbaaISize
import Derived.Test.YtpeclgfopincbaaHoles
import Derived.Test.YtpeclgfopincbaaRuler
import Derived.Test.YtpeclgfopincbaaSearch
import Derived.Test.YtpeclgfopincbaaExt
import Derived.Test.YtpeclgfopincbaaRulN
import Derived.Test.YtpeclgfopincbaaShortR
import Derived.Test.YtpeclgfopincbaaLeastM
import Derived.Test.YtpeclgfopincbaaSpecRul
import Derived.WalkKit
import Derived.ProofKit
import Derived.OpenShut
import Derived.ShutString
import Derived.ChangeOld
import Derived.Below
import Derived.Lib.Hide
import Derived.BigQuiet
import Derived.Deep.QuietTactic
import Derived.WalkLawsBesides
import Derived.Outline
import Derived.RangeFuncCalls
import Derived.Shelf.Abstract
import Derived.RangeFuncBox
import Derived.Deep.QuietTactic
import Derived.BigQuiet
import Derived.Deep.LoopGhost
namespace Go.Proofs.Ytpeclgfopincbaa.shortA
open Go.ChangeShapes Go.WideShapes Go.ChangeAt Go.RowKit
open Go.ChangeMaps (open_string shut_string)
set_option linter.unusedVariables false
open Go Go.RowKit Go.Shelf
open Go.Proofs.Ytpeclgfopincbaa.slc Go.Proofs.Ytpeclgfopincbaa.small Go.Proofs.Ytpeclgfopincbaa.listI Go.Proofs.Ytpeclgfopincbaa.marks Go.Proofs.Ytpeclgfopincbaa.ruler Go.Proofs.Ytpeclgfopincbaa.search Go.Proofs.Ytpeclgfopincbaa.ext Go.Proofs.Ytpeclgfopincbaa.rulN Go.Proofs.Ytpeclgfopincbaa.shortR Go.Proofs.Ytpeclgfopincbaa.leastM Go.Proofs.Ytpeclgfopincbaa.specRul

/-- What one length gives. -/
def at_ (cnt : Nat) (last : Int) : Option (List Int) := ds (finL last) rB last (cnt - 1) [0]
theorem rB0 : rB [0] = true := by decide
theorem di_at (cnt : Nat) {last : Int} (h : 0 ≤ last) : di rB last (cnt - 1) [0] = at_ cnt last := by
  have h1 := di_ds (wB := rB) (fin := finL last) (rB := rB) (last := last) (fun ms _ => rfl) (fun ms _ hw => .inl hw) (fun ms _ hw => hw) (fun ms hf => of_decide_eq_true hf) (cnt - 1) [0] (good0 h)
  rw [h1, if_pos rB0]
  rfl
theorem at_none {cnt : Nat} (h1 : 1 ≤ cnt) (h2 : cnt ≤ 16) {last : Int} (h0 : 0 ≤ last) (h : last < pairs cnt) : at_ cnt last = none := by
  cases hd : at_ cnt last with
  | none => rfl
  | some r =>
    obtain ⟨g, hb, hf, hl⟩ := ds_is (cnt - 1) [0] r (good0 h0) rB0 hd
    have hl2 : r.length = cnt := by rw [hl]; simp; omega
    have h3 := (pairs_bd cnt h1 h2).2
    have := ruler_long g (by omega) (by omega) hb
    rw [hl2] at this
    omega
theorem at_len {cnt : Nat} (h1 : 1 ≤ cnt) {last : Int} (h0 : 0 ≤ last) {r : List Int} (h : at_ cnt last = some r) : r.length = cnt := by
  obtain ⟨_, _, _, hl⟩ := ds_is (cnt - 1) [0] r (good0 h0) rB0 h
  rw [hl]; simp; omega
/-- The answer. -/
def srt (cnt : Nat) : Option (List Int) := tryL (at_ cnt) 31 0
theorem tryL_skip {f : Int → Option (List Int)} : ∀ (a b : Nat) (lo : Int), (∀ m, lo ≤ m → m < lo + a → f m = none) → tryL f (a + b) lo = tryL f b (lo + a)
  | 0, b, lo, _ => by rw [Nat.zero_add]; simp
  | a + 1, b, lo, h => by
    rw [show a + 1 + b = (a + b) + 1 by omega]
    show (match f lo with | some r => some r | none => tryL f (a + b) (lo + 1)) = _
    rw [h lo (by omega) (by omega)]
    have := tryL_skip a b (lo + 1) (fun m h1 h2 => h m (by omega) (by omega))
    rw [show lo + ((a + 1 : Nat) : Int) = lo + 1 + (a : Int) by omega]
    exact this
theorem eg_short : ∀ args w, (callFunc 138 args).run Try.prog w = .ok (.enter 138 args) w := enters_of Try.func138 (by kernel_rfl) rfl
theorem short_wanted (n0 : Nat) (w0 : World) {last : Int} (hl : last ≤ 30) : Wanted n0 w0 138 #[] last rB := by
  intro ms A c B W _ _ hg h16 hc hB hr
  obtain ⟨ad, rfl, _, _⟩ := hr.at_ (show 0 < ms.length from hg.1)
  exact short_c ad c B ms.length ms last W rfl h16 hg.1 hc hl hg hB hr
set_option maxRecDepth 100000 in
set_option maxHeartbeats 2000000 in
theorem short_impl (cnt : Nat) (w : World) (h1 : 1 ≤ cnt) (h7 : cnt ≤ 7) :
    Calls Try.prog 56 #[.int .i64 (cnt : Int)] w fun e w' => ∃ A c, e = .returned (.tuple #[.slice A ((srt cnt).getD []).length c, .bool (srt cnt).isSome]) ∧ w'.ownsRow w.heap.size 2 1 (.slice A ((srt cnt).getD []).length c) ((srt cnt).getD []).length (ints ((srt cnt).getD [])) ∧ w.grownBy w' none := by
  have hp := pairs_bd cnt h1 (by omega)
  have hpl : pairs cnt ≤ 30 := by
    have : ∀ c : Fin 8, pairs c.val ≤ 30 := by decide
    exact this ⟨cnt, by omega⟩
  obtain ⟨P, hP⟩ : ∃ P : Nat, pairs cnt = (P : Int) := ⟨(pairs cnt).toNat, by omega⟩
  have hs : srt cnt = tryL (at_ cnt) (31 - P) (P : Int) := by
    unfold srt
    rw [show 31 = P + (31 - P) by omega, tryL_skip P (31 - P) 0 (fun m ha hb => at_none h1 (by omega) (by omega) (by omega)), Int.zero_add, show P + (31 - P) - P = 31 - P by omega]
  have HS := Lib.hid hs
  have HPC := Lib.hid (fun w : World => pairs_c cnt w h1 (by omega))
  rw [hP] at HPC
  have HLM := Lib.hid (fun (l : Nat) (hl : l ≤ 30) (wr : World) => di_at cnt (last := (l : Int)) (by omega) ▸ least_c cnt 138 #[] (l : Int) rB wr h1 (by omega) ⟨by omega, by omega⟩ (short_wanted _ wr (by omega)) eg_short)
  have q1 : (1 : Int) ≤ (cnt : Int) := by omega
  have q7 : (cnt : Int) ≤ 7 := by omega
  clear hs hp hpl hP
  generalize srt cnt = S at *
  go_enter Try.func56, Try.ntmps56
  go_wp2_with fail
  refine (within_yes _ _ _ _ q1 q7).mono ?_
  rintro e w' ⟨rfl, rfl⟩
  go_wp2_with fail
  refine (HPC.out _).mono ?_
  rintro e w' ⟨rfl, rfl⟩
  clear HPC
  go_wp2_with fail
  go_loopw [4] (fun lv wr => ∃ j : Nat, j ≤ 31 - P ∧ lv = .int .i64 ((P : Int) + (j : Int)) ∧ S = tryL (at_ cnt) (31 - P - j) ((P : Int) + (j : Int)) ∧ w.grownBy wr none) (fun lv _ => (100 - intOf lv).toNat)
  case atStart => exact ⟨0, Nat.zero_le _, by simp, by simpa using HS.out, World.grownBy.refl _ _⟩
  case round =>
    obtain ⟨j, hj, rfl, htr, hgr⟩ := hrel
    by_cases hlt : (P : Int) + (j : Int) ≤ 30
    · obtain ⟨l, hl⟩ : ∃ l : Nat, (P : Int) + (j : Int) = (l : Int) := ⟨P + j, by omega⟩
      have hnx : tryL (at_ cnt) (31 - P - j) ((P : Int) + (j : Int)) = match at_ cnt ((P : Int) + (j : Int)) with | some r => some r | none => tryL (at_ cnt) (31 - P - (j + 1)) ((P : Int) + ((j + 1 : Nat) : Int)) := by
        rw [show 31 - P - j = (31 - P - (j + 1)) + 1 by omega, show (P : Int) + ((j + 1 : Nat) : Int) = (P : Int) + (j : Int) + 1 by omega]
        rfl
      have hj2 : j + 1 ≤ 31 - P := by omega
      have HJ := Lib.hid (show (P : Int) + ((j + 1 : Nat) : Int) = (l : Int) + 1 by omega)
      rw [hl] at hnx htr
      have HN := Lib.hid (htr.trans hnx)
      have HC := Lib.hid (HLM.out l (by omega) wr)
      have hb := hgr.size
      rw [hl]
      rw [hl] at hlt
      clear htr hnx hl
      generalize at_ cnt (l : Int) = D at *
      go_wp2_with fail
      refine HC.out.mono ?_
      rintro e w6 ⟨A6, c6, rfl, ho6, g6⟩
      have HF := Lib.hid (And.intro ho6 (hgr.trans g6))
      clear ho6 g6 hgr HC
      cases D with
      | some r =>
        have HR := Lib.hid (show S = some r from HN.out)
        clear HN
        go_wp2_with fail
        go_ret2
        rw [HR.out]
        exact ⟨A6, c6, rfl, own_mono HF.out.1 hb, HF.out.2⟩
      | none =>
        have HR := Lib.hid (show S = tryL (at_ cnt) (31 - P - (j + 1)) ((P : Int) + ((j + 1 : Nat) : Int)) from HN.out)
        clear HN
        go_wp2_with fail
        go_roundw
        case rel => exact ⟨j + 1, hj2, by rw [HJ.out], HR.out, HF.out.2⟩
        case measure => simp [intOf]; omega
    · have hz : 31 - P - j = 0 := by omega
      rw [hz] at htr
      have HR := Lib.hid (show S = none from htr)
      clear htr hz HS
      generalize (P : Int) + (j : Int) = m at *
      go_wp2_with fail
      go_ret2
      rw [HR.out]
      exact ⟨none, 0, rfl, World.ownsRow_nil _ _ _ _, hgr⟩

/-! ## the model -/
set_option maxRecDepth 100000 in
set_option maxHeartbeats 2000000 in
theorem rul_top (cnt : Nat) (l : Nat) (ad : Addr) (c B : Nat) (w : World) (h1 : 1 ≤ cnt) (h7 : cnt ≤ 7) (hl : l ≤ 30) (hB : B ≤ w.heap.size) :
    Calls Try.prog 135 #[.slice (some ad) 0 c, .int .i64 (cnt : Int), .int .i64 (l : Int)] w fun e w' => ∃ A' c' r, e = .returned (.tuple #[.slice A' r.length c', .bool (at_ cnt (l : Int)).isSome]) ∧ (∀ q, at_ cnt (l : Int) = some q → r = q) ∧ w'.ownsRow w.heap.size 2 1 (.slice A' r.length c') r.length (ints r) ∧ w.grownBy w' none := by
  have HOW := Lib.hid (fun (wr : World) => (own_c ad c wr.heap.size wr.heap.size [] wr (by simp) (Nat.le_refl _) (fun h => absurd h (by simp)) (Nat.le_refl _)))
  have HR := Lib.hid (fun (A : Option Addr) (c : Nat) (W : World) (hw : w.heap.size ≤ W.heap.size) => rul_s cnt (l : Int) w.heap.size ⟨by omega, by omega⟩ (by omega) (cnt - 1) [0] A c W (by simp; omega) (good0 (by omega)) hw)
  have HM := Lib.hid (mB_of (good0 (last := (l : Int)) (by omega)) (by simp) (by omega))
  obtain ⟨i0, hi0, hz0, hz1, hz2⟩ := info_parts ext.info64
  have q1 : ((0 : Int) == (cnt : Int)) = false := by simp; omega
  have HAT := Lib.hid (show ds (finL (l : Int)) rB (l : Int) (cnt - 1) [0] = at_ cnt (l : Int) from rfl)
  rw [HAT.out] at HR
  generalize hD : at_ cnt (l : Int) = D at *
  clear hD HAT
  go_enter Try.func135, Try.ntmps135
  go_wp2_with fail
  go_loopw [10] (fun mv wr => ∃ j : Nat, j ≤ 1 ∧ mv = .int .i64 (j : Int) ∧ (j = 1 → D = none) ∧ w.grownBy wr none) (fun mv _ => (100 - intOf mv).toNat)
  case atStart => exact ⟨0, by omega, rfl, fun h => by omega, World.grownBy.refl _ _⟩
  case round =>
    obtain ⟨j, hj, rfl, hd, hgr⟩ := hrel
    by_cases hz : j = 0
    · subst hz
      have l0 : (0 : Int) ≤ (l : Int) := by omega
      have hw0 := hgr.size
      have HOW2 := Lib.hid (HOW.out wr)
      clear HOW hd
      rw [show ((0 : Nat) : Int) = 0 from rfl]
      go_wp2_with fail
      refine HOW2.out.mono ?_
      rintro e w1 ⟨A1, c1, rfl, ho1, g1'⟩
      have G1 := hgr.trans g1'
      have hs1 := g1'.size
      have HG1 := Lib.hid G1
      dsimp only [List.length_nil] at ho1
      clear g1' G1 HOW2 hgr
      go_wp2_with (at_builtin; refine wpList_append_own _ rfl _ _ 45 rfl wr.heap.size 2 i0 (.int .i64 0) 1 8 Try.underlying45 hi0 hz0 hz1 hz2 rfl (by decide) _ _ _ rfl (ho1.alloc _) ⟨w1.heap.size, 0, none⟩ 1 1 [.int .i64 0] rfl rfl (cell_one_new _ _ _) (by simp [Value.oneCell']) (by unfold maxLen; omega) (by omega) (by simp; omega) ?_; intro v' w4 hown' hgrow _)
      obtain ⟨A4, c4, rfl⟩ := own_form hown'
      have ho4 : w4.ownsRow wr.heap.size 2 1 (.slice A4 1 c4) 1 (ints [0]) := hown'
      have G4 := gb_new (HG1.out.trans (World.grownBy_alloc w1 (.cells #[.int .i64 0] 2) none)) hgrow (by intro g e; have := (ho1.lt g e).1; omega)
      have HRU := Lib.hid (show Calls Try.prog 191 #[.slice A4 (0 + 1) c4] w4 (fun e w' => e = .returned (.bool true) ∧ w4.grownBy w' none) from rB0 ▸ ruler_spec A4 c4 w4.heap.size [0] w4 HM.out (Rd.of_own ho4 (Nat.mul_one _).symm) (Nat.le_refl _))
      have HCALL := Lib.hid (fun (w5 : World) (g : w4.grownBy w5 none) => HR.out A4 c4 w5 (G4.trans g).size (own_mono (own_kept0 ho4 g) hw0))
      have HG4 := Lib.hid G4
      clear hown' hgrow ho1 ho4 G4 HG1 HR HM
      refine HRU.out.mono ?_
      rintro e w5 ⟨rfl, g5⟩
      have HC5 := Lib.hid (HCALL.out w5 g5)
      have HG5 := Lib.hid (HG4.out.trans g5)
      clear g5 HG4 HRU HCALL
      go_wp2_with fail
      refine (show Calls _ _ #[.slice A4 (0 + 1) c4, _, _] _ _ from HC5.out).mono ?_
      rintro e w6 ⟨A6, c6, r6, rfl, hq6, ho6, g6⟩
      have HG6 := Lib.hid (HG5.out.trans g6)
      have HO6 := Lib.hid ho6
      have HQ6 := Lib.hid hq6
      clear g6 ho6 HC5 HG5 hq6
      cases D with
      | some r =>
        go_wp2_with fail
        go_ret2
        exact ⟨A6, c6, r6, rfl, HQ6.out, HO6.out, HG6.out⟩
      | none =>
        clear HO6 HQ6
        go_wp2_with fail
        go_roundw
        case rel => exact ⟨1, by omega, by first | rfl | go_num, by simp, HG6.out⟩
        case measure => simp [intOf]
    · obtain rfl : j = 1 := by omega
      obtain rfl := hd rfl
      have ga := World.grownBy_alloc wr (.cells #[] 2) none
      have ho0 := World.ownsRow_lit (base := w.heap.size) (e := 2) (size := 1) wr #[] 0 hgr.size (Nat.zero_le _) rfl
      have HFF := Lib.hid (And.intro ho0 (hgr.trans ga))
      clear ga ho0 hgr hd hz
      rw [show ((1 : Nat) : Int) = 1 from rfl]
      by_cases hl1 : (1 : Int) ≤ (l : Int)
      · go_wp2_with fail
        go_ret2
        exact ⟨_, _, [], rfl, HFF.out.1, HFF.out.2⟩
      · have hl2 : (l : Int) < 1 := by omega
        go_wp2_with fail
        go_ret2
        exact ⟨_, _, [], rfl, HFF.out.1, HFF.out.2⟩
set_option maxRecDepth 100000 in
set_option maxHeartbeats 2000000 in
theorem short_spec (cnt : Nat) (w : World) (h1 : 1 ≤ cnt) (h7 : cnt ≤ 7) :
    Calls Try.prog 55 #[.int .i64 (cnt : Int)] w fun e w' => ∃ A c, e = .returned (.tuple #[.slice A ((srt cnt).getD []).length c, .bool (srt cnt).isSome]) ∧ w'.ownsRow w.heap.size 2 1 (.slice A ((srt cnt).getD []).length c) ((srt cnt).getD []).length (ints ((srt cnt).getD [])) ∧ w.grownBy w' none := by
  have HS := Lib.hid (show srt cnt = tryL (at_ cnt) 31 0 from rfl)
  have HT := Lib.hid (fun (l : Nat) (hl : l ≤ 30) (ad : Addr) (c : Nat) (wr : World) => rul_top cnt l ad c wr.heap.size wr h1 h7 hl (Nat.le_refl _))
  have q1 : (1 : Int) ≤ (cnt : Int) := by omega
  have q7 : (cnt : Int) ≤ 7 := by omega
  generalize srt cnt = S at *
  go_enter Try.func55, Try.ntmps55
  go_wp2_with fail
  refine (in_yes _ _ _ _ q1 q7).mono ?_
  rintro e w' ⟨rfl, rfl⟩
  go_wp2_with fail
  go_loopw [4] (fun lv wr => ∃ j : Nat, j ≤ 31 ∧ lv = .int .i64 (j : Int) ∧ S = tryL (at_ cnt) (31 - j) (j : Int) ∧ w.grownBy wr none) (fun lv _ => (100 - intOf lv).toNat)
  case atStart => exact ⟨0, Nat.zero_le _, rfl, HS.out, World.grownBy.refl _ _⟩
  case round =>
    obtain ⟨j, hj, rfl, htr, hgr⟩ := hrel
    by_cases hlt : j ≤ 30
    · have hlt2 : (j : Int) ≤ 30 := by omega
      have hnx : tryL (at_ cnt) (31 - j) (j : Int) = match at_ cnt (j : Int) with | some r => some r | none => tryL (at_ cnt) (31 - (j + 1)) ((j + 1 : Nat) : Int) := by
        rw [show 31 - j = (31 - (j + 1)) + 1 by omega, show ((j + 1 : Nat) : Int) = (j : Int) + 1 by omega]
        rfl
      have HN := Lib.hid (htr.trans hnx)
      have ga := World.grownBy_alloc wr (.cells #[] 2) none
      have HC := Lib.hid (HT.out j hlt ⟨wr.heap.size, 0, none⟩ 0 (wr.alloc (.cells #[] 2)))
      have HGA := Lib.hid (hgr.trans ga)
      have hb := (hgr.trans ga).size
      clear htr hnx ga
      generalize at_ cnt (j : Int) = D at *
      go_wp2_with fail
      refine HC.out.mono ?_
      rintro e w6 ⟨A6, c6, r6, rfl, hq6, ho6, g6⟩
      have HF := Lib.hid (And.intro ho6 (HGA.out.trans g6))
      have HQ := Lib.hid hq6
      clear ho6 g6 hgr HC hq6
      cases D with
      | some r =>
        have HR := Lib.hid (show S = some r from HN.out)
        clear HN
        go_wp2_with fail
        go_ret2
        obtain rfl := HQ.out r rfl
        rw [HR.out]
        exact ⟨A6, c6, rfl, own_mono HF.out.1 hb, HF.out.2⟩
      | none =>
        have HR := Lib.hid (show S = tryL (at_ cnt) (31 - (j + 1)) ((j + 1 : Nat) : Int) from HN.out)
        clear HN
        go_wp2_with fail
        go_roundw
        case rel => exact ⟨j + 1, by omega, by go_num, HR.out, HF.out.2⟩
        case measure => simp [intOf]; omega
    · obtain rfl : j = 31 := by omega
      have HR := Lib.hid (show S = none from htr)
      clear htr HS
      rw [show ((31 : Nat) : Int) = 31 from rfl]
      go_wp2_with fail
      go_ret2
      rw [HR.out]
      exact ⟨none, 0, rfl, World.ownsRow_nil _ _ _ _, hgr⟩

end Go.Proofs.Ytpeclgfopincbaa.shortA
