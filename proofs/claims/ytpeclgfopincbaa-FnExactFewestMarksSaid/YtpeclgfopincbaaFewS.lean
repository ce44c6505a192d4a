/- The fewest marks, by the model. -/
import Derived.Test.YtpeclgfopincbaaRows
import Derived.Test.YtpeclgfopincbaaSlc
import Derived.Test.YtpeclgfopincbaaSmall
import Derived.Test.YtpeclgfopincbaaListI
import Derived.Test.YtpeclgfopincbaaMarks
import Derived.Test.YtpeclgfopincbaaPut
import Derived.Test.YtpeclgfopincbaaDiff
import Derived.Test.YtpeclgfopincbaaISet
import Derived.Test.YtpeclgfopincbaaISize
import Derived.Test.YtpeclgfopincbaaHoles
import Derived.Test.YtpeclgfopincbaaRuler
import Derived.Test.YtpeclgfopincbaaSearch
import Derived.Test.YtpeclgfopincbaaExt
import Derived.Test.YtpeclgfopincbaaRulN
import Derived.Test.YtpeclgfopincbaaLeastM
import Derived.Test.YtpeclgfopincbaaHoles2
import Derived.Test.YtpeclgfopincbaaFewN
import Derived.Test.YtpeclgfopincbaaSpecRul
import Derived.Test.YtpeclgfopincbaaFewA
import Derived.WalkKit
import Derived.ProofKit
import Derived.OpenShut
import Derived.ShutString
import Derived.ChangeOld
import Derived.Below
import Derived.Lib.Hide
import Derived.BigQuiet
import Derived.Deep.QuietTactic
import Derived.WalkLawsBesides
import Derived.Outline
import Derived.RangeFuncCalls
import Derived.Shelf.Abstract
import Derived.RangeFuncBox
import Derived.Deep.QuietTactic
import Derived.BigQuiet
import Derived.Deep.LoopGhost
namespace Go.Proofs.Ytpeclgfopincbaa.fewS
open Go.ChangeShapes Go.WideShapes Go.ChangeAt Go.RowKit
open Go.ChangeMaps (open_string shut_string)
set_option linter.unusedVariables false
open Go Go.RowKit Go.Shelf
open Go.Proofs.Ytpeclgfopincbaa.slc Go.Proofs.Ytpeclgfopincbaa.small Go.Proofs.Ytpeclgfopincbaa.listI Go.Proofs.Ytpeclgfopincbaa.marks Go.Proofs.Ytpeclgfopincbaa.holes Go.Proofs.Ytpeclgfopincbaa.search Go.Proofs.Ytpeclgfopincbaa.ext Go.Proofs.Ytpeclgfopincbaa.leastM Go.Proofs.Ytpeclgfopincbaa.fewN Go.Proofs.Ytpeclgfopincbaa.specRul Go.Proofs.Ytpeclgfopincbaa.fewA

abbrev yB : List Int → Bool := fun _ => true
theorem full_step (fin : List Int → Bool) (last : Int) (left : Nat) (ms : List Int) : ds fin yB last (left + 1) ms = tryL (fun m => ds fin yB last left (ms ++ [m])) (last - endOf ms).toNat (endOf ms + 1) := rfl
set_option maxRecDepth 100000 in
set_option maxHeartbeats 4000000 in
theorem full_s (cnt : Nat) (last : Int) (n1 : Nat) (hlast : 0 ≤ last ∧ last ≤ 1000) (hcnt : cnt ≤ 16) : ∀ (left : Nat) (ms : List Int) (A : Option Addr) (c : Nat) (W : World), ms.length + left = cnt → GoodM last ms → n1 ≤ W.heap.size → W.ownsRow n1 2 1 (.slice A ms.length c) ms.length (ints ms) →
    Calls Try.prog 139 #[.slice A ms.length c, .int .i64 (cnt : Int), .int .i64 last] W fun e W' => ∃ A' c' r, e = .returned (.tuple #[.slice A' r.length c', .bool (ds (finH last) yB last left ms).isSome]) ∧ (∀ q, ds (finH last) yB last left ms = some q → r = q) ∧ W'.ownsRow n1 2 1 (.slice A' r.length c') r.length (ints r) ∧ W.grownBy W' none := by
  intro left
  induction left with
  | zero =>
    intro ms A c W hlen hg hn1 ho
    have g1 := hg.1
    obtain ⟨ad, rfl, _, hce⟩ := (Rd.of_own ho (Nat.mul_one _).symm).at_ (show ms.length - 1 < ms.length by omega)
    have ec : (ints ms).getD (ms.length - 1) undef = .int .i64 (endOf ms) := by simp [List.getD, end_cell g1]
    rw [ec] at hce
    obtain ⟨n, hn⟩ : ∃ n, ms.length = n + 1 := ⟨ms.length - 1, by omega⟩
    have hds : ds (finH last) yB last 0 ms = if finH last ms = true then some ms else none := rfl
    have hv : mB ms = true := mB_of hg (by omega) (by omega)
    have HH := Lib.hid (fun (w2 : World) (g : W.grownBy w2 none) => holes_spec (some ad) c W.heap.size ms w2 hv ((Rd.of_own ho (Nat.mul_one _).symm).kept0 g (Nat.le_refl _)) g.size)
    have HD := Lib.hid hds
    have HO := Lib.hid ho
    clear hds ho ec hv
    have e1 : ((n : Int) + 1 == (cnt : Int)) = true := by simp; omega
    have e2 : (n : Int) < (n : Int) + 1 := by omega
    have e3 : IntKind.i64.wrap (n : Int) = (n : Int) := by rw [IntKind.wrap_i64]; omega
    have e4 : (0 : Int) ≤ (n : Int) := by omega
    rw [hn, Nat.add_sub_cancel] at hce
    have HN := Lib.hid hn
    have hR : (ds (finH last) yB last 0 ms).isSome = finH last ms ∧ ∀ q, ds (finH last) yB last 0 ms = some q → ms = q := by
      rw [HD.out]
      by_cases h : finH last ms = true
      · rw [if_pos h, h]
        exact ⟨rfl, fun q hq => by injection hq⟩
      · rw [if_neg h, Bool.eq_false_iff.2 h]
        exact ⟨rfl, fun q hq => by cases hq⟩
    have hfin : finH last ms = (decide (endOf ms = last) && decide (H ms = [])) := rfl
    rw [hfin] at hR
    have HRR := Lib.hid hR
    clear hR HD hlen hfin
    have hz := HN.out
    rw [hn] at HH ⊢
    clear hn hz
    generalize hE : endOf ms = E at *
    by_cases he : E = last
    · by_cases hx : H ms = []
      all_goals
        have z : (((H ms).length : Int) == 0) = decide (H ms = []) := by simp [hx]
        first | rw [decide_eq_true hx] at z HRR | rw [decide_eq_false hx] at z HRR
        rw [decide_eq_true he] at HRR
        have ez : (E == last) = true := by simp [he]
        clear hx he hE
        go_enter Try.func139, Try.ntmps139
        go_wp2_with fail
        have HH2 := Lib.hid (HH.out W (World.grownBy.refl _ _))
        have HG := Lib.hid (World.grownBy.refl W none)
        clear HH
        generalize (H ms).length = hl at *
        refine HH2.out.mono ?_
        rintro e W3 ⟨A3, c3, rfl, _, g3⟩
        have HG3 := Lib.hid (HG.out.trans g3)
        clear HH2 HG g3
        go_wp2_with fail
        go_ret2
        refine ⟨some ad, c, ms, ?_, HRR.out.2, own_kept0 HO.out HG3.out, HG3.out⟩
        rw [HRR.out.1, HN.out]
        first | rfl | simp
    · rw [decide_eq_false he] at HRR
      have ez : (E == last) = false := by simp [he]
      clear he hE HH
      go_enter Try.func139, Try.ntmps139
      go_wp2_with fail
      go_ret2
      refine ⟨some ad, c, ms, ?_, HRR.out.2, HO.out, World.grownBy.refl _ _⟩
      rw [HRR.out.1, HN.out]
      first | rfl | simp
  | succ left ih =>
    intro ms A c W hlen hg hn1 ho
    have g1 := hg.1
    have hml : ms.length ≤ 16 := by omega
    obtain ⟨ad, rfl, _, hce⟩ := (Rd.of_own ho (Nat.mul_one _).symm).at_ (show ms.length - 1 < ms.length by omega)
    have ec : (ints ms).getD (ms.length - 1) undef = .int .i64 (endOf ms) := by simp [List.getD, end_cell g1]
    rw [ec] at hce
    obtain ⟨f, hf⟩ : ∃ f : Int → Option (List Int), f = fun m => ds (finH last) yB last left (ms ++ [m]) := ⟨_, rfl⟩
    obtain ⟨K, hK⟩ : ∃ K : Nat, K = (last - endOf ms).toNat := ⟨_, rfl⟩
    have hds : ds (finH last) yB last (left + 1) ms = tryL f K (endOf ms + 1) := by rw [hf, hK, full_step]
    rw [hds]
    have HF := Lib.hid hf
    have HKK := Lib.hid hK
    have HIH := Lib.hid ih
    have HO := Lib.hid ho
    have HGM := Lib.hid hg
    have HL := Lib.hid hlen
    have hend := hg.2.2 _ (end_mem g1)
    have hne : ((ms.length : Int) == (cnt : Int)) = false := by simp; omega
    have hwo := fun (wr : World) (g : W.grownBy wr none) => own_c ad c wr.heap.size wr.heap.size ms wr (by omega) (Nat.le_refl _) (((Rd.of_own ho (Nat.mul_one _).symm).kept0 g (Nat.le_refl _)).mono g.size) (Nat.le_refl _)
    have HOC := Lib.hid hwo
    obtain ⟨i0, hi0, hz0, hz1, hz2⟩ := info_parts ext.info64
    clear hds hf hK ih ec hwo ho
    generalize hE : endOf ms = E at *
    have HE := Lib.hid hE
    clear hE
    have q1 : IntKind.i64.wrap ((ms.length : Int) - 1) = ((ms.length - 1 : Nat) : Int) := by rw [IntKind.wrap_i64]; omega
    have q2 : (ms.length : Int) - 1 = ((ms.length - 1 : Nat) : Int) := by omega
    have q3 : (0 : Int) ≤ ((ms.length - 1 : Nat) : Int) := by omega
    have q4 : ((ms.length - 1 : Nat) : Int) < (ms.length : Int) := by omega
    have q5 : (0 : Int) < (ms.length : Int) := by omega
    have q6 : 0 < ms.length := by omega
    have HQ5 := Lib.hid q6
    clear hlen
    generalize hN : ms.length = n at *
    have HN := Lib.hid hN
    clear hN
    generalize n - 1 = p at *
    go_enter Try.func139, Try.ntmps139
    go_wp2_with fail
    have hKE : ∀ j : Nat, j < K ↔ E + 1 + (j : Int) ≤ last := fun j => by rw [HKK.out]; omega
    clear hce q1 q2 q3 q4
    go_loopw [9] (fun mv wr => ∃ j : Nat, j ≤ K ∧ mv = .int .i64 (E + 1 + (j : Int)) ∧ tryL f K (E + 1) = tryL f (K - j) (E + 1 + (j : Int)) ∧ W.grownBy wr none) (fun mv _ => (3000 - intOf mv).toNat)
    case atStart => exact ⟨0, Nat.zero_le _, by simp, by simp, World.grownBy.refl _ _⟩
    case round =>
      obtain ⟨j, hj, rfl, htr, hgr⟩ := hrel
      have hjk := hKE j
      by_cases hlt : j < K
      · have hle := hjk.1 hlt
        have hm1 : E < E + 1 + (j : Int) := by omega
        have hnx : tryL f (K - j) (E + 1 + (j : Int)) = match f (E + 1 + (j : Int)) with | some r => some r | none => tryL f (K - (j + 1)) (E + 1 + ((j + 1 : Nat) : Int)) := by
          rw [show K - j = (K - (j + 1)) + 1 by omega, show E + 1 + ((j + 1 : Nat) : Int) = E + 1 + (j : Int) + 1 by omega]
          rfl
        have hfm : f (E + 1 + (j : Int)) = ds (finH last) yB last left (ms ++ [E + 1 + (j : Int)]) := by rw [HF.out]
        rw [hfm] at hnx
        have HNX := Lib.hid (htr.trans hnx)
        have HGS := Lib.hid (HGM.out.snoc (m := E + 1 + (j : Int)) (by rw [HE.out]; exact hm1) hle)
        have HJ := Lib.hid (show E + 1 + ((j + 1 : Nat) : Int) = E + 1 + (j : Int) + 1 by omega)
        have HOW := Lib.hid (HOC.out wr hgr)
        have hs0 := Nat.le_trans hn1 hgr.size
        clear htr hnx hfm hjk hKE HOC HO
        generalize hM : E + 1 + (j : Int) = m at *
        clear hM
        go_wp2_with fail
        refine HOW.out.mono ?_
        rintro e w1 ⟨A1, c1, rfl, ho1, g1'⟩
        have G1 := hgr.trans g1'
        have hs1 := g1'.size
        have hsw := hgr.size
        have HG1 := Lib.hid G1
        clear g1' G1 HOW hgr
        go_wp2_with (at_builtin; refine wpList_append_own _ rfl _ _ 45 rfl wr.heap.size 2 i0 (.int .i64 0) 1 8 Try.underlying45 hi0 hz0 hz1 hz2 rfl (by decide) _ _ _ rfl (ho1.alloc _) ⟨w1.heap.size, 0, none⟩ 1 1 [.int .i64 m] rfl rfl (cell_one_new _ _ _) (by simp [Value.oneCell']) (by unfold maxLen; omega) (by omega) (by simp; omega) ?_; intro v' w4 hown' hgrow _)
        have hl5 : (ms ++ [m]).length = n + 1 := by rw [List.length_append, HN.out]; rfl
        obtain ⟨A4, c4, rfl⟩ := own_form hown'
        have ho4 : w4.ownsRow wr.heap.size 2 1 (.slice A4 (n + 1) c4) (n + 1) (ints (ms ++ [m])) := by rw [← slc.ints_snoc]; exact hown'
        have G4 := gb_new (HG1.out.trans (World.grownBy_alloc w1 (.cells #[.int .i64 m] 2) none)) hgrow (by intro g e; have := (ho1.lt g e).1; omega)
        have R4 := Rd.of_own ho4 (Nat.mul_one _).symm
        have HCALL := Lib.hid (fun (w5 : World) (g : w4.grownBy w5 none) => (show Calls _ _ #[.slice A4 (n + 1) c4, _, _] _ _ from hl5 ▸ HIH.out (ms ++ [m]) A4 c4 w5 (by rw [hl5]; have := HL.out; omega) HGS.out (Nat.le_trans hn1 (G4.trans g).size) (by rw [hl5]; exact own_mono (own_kept0 ho4 g) hs0)))
        have HG4 := Lib.hid G4
        clear hown' hgrow ho1 ho4 R4 G4 HG1
        have HC5 := Lib.hid (HCALL.out w4 (World.grownBy.refl _ _))
        have HNX2 := Lib.hid (show tryL f K (E + 1) = match ds (finH last) yB last left (ms ++ [m]) with | some r => some r | none => tryL f (K - (j + 1)) (E + 1 + ((j + 1 : Nat) : Int)) from HNX.out)
        have HG5 := HG4
        clear HNX HG4 HCALL
        generalize ds (finH last) yB last left (ms ++ [m]) = D at *
        go_wp2_with fail
        refine HC5.out.mono ?_
        rintro e w6 ⟨A6, c6, r6, rfl, hq6, ho6, g6⟩
        have HG6 := Lib.hid (HG5.out.trans g6)
        have HO6 := Lib.hid ho6
        clear g6 ho6 HC5 HG5
        cases D with
        | some r =>
          obtain rfl := hq6 r rfl
          have HR := Lib.hid (show tryL f K (E + 1) = some r6 from HNX2.out)
          clear HNX2 hq6
          go_wp2_with fail
          go_ret2
          exact ⟨A6, c6, r6, by rw [HR.out]; rfl, fun q hq => by rw [HR.out] at hq; (injection hq), HO6.out, HG6.out⟩
        | none =>
          have HR := Lib.hid (show tryL f K (E + 1) = tryL f (K - (j + 1)) (E + 1 + ((j + 1 : Nat) : Int)) from HNX2.out)
          clear HNX2 hq6 HO6
          go_wp2_with fail
          go_roundw
          case rel => exact ⟨j + 1, by omega, by rw [HJ.out], HR.out, HG6.out⟩
          case measure => simp [intOf]; omega
      · obtain rfl : j = K := by omega
        have HR := Lib.hid (show tryL f j (E + 1) = none by rw [htr, Nat.sub_self]; rfl)
        have hgt : last < E + 1 + (j : Int) := by have := hKE j; omega
        have ga := World.grownBy_alloc wr (.cells #[] 2) none
        have ho0 := World.ownsRow_lit (base := n1) (e := 2) (size := 1) wr #[] 0 (Nat.le_trans hn1 hgr.size) (Nat.zero_le _) rfl
        have HFF := Lib.hid (And.intro ho0 (hgr.trans ga))
        clear htr hKE hjk ga ho0 hgr
        generalize E + 1 + (j : Int) = m at *
        go_wp2_with fail
        go_ret2
        exact ⟨_, _, [], by rw [HR.out]; rfl, fun q hq => by rw [HR.out] at hq; (cases hq), HFF.out.1, HFF.out.2⟩

set_option maxRecDepth 100000 in
set_option maxHeartbeats 2000000 in
theorem few_spec (n : Nat) (w : World) (h12 : n ≤ 12) :
    Calls Try.prog 57 #[.int .i64 (n : Int)] w fun e w' => ∃ A c, e = .returned (.tuple #[.slice A ((frF n).getD []).length c, .bool (frF n).isSome]) ∧ w'.ownsRow w.heap.size 2 1 (.slice A ((frF n).getD []).length c) ((frF n).getD []).length (ints ((frF n).getD [])) ∧ w.grownBy w' none := by
  have HS := Lib.hid (show frF n = tryL (gF n) (n + 1) 1 from rfl)
  have HSOME := Lib.hid (frF_some h12)
  have HF0 := Lib.hid (fun (k : Nat) (h1 : 1 ≤ k) (hk : k ≤ 13) (wr : World) => full_s k (n : Int) wr.heap.size ⟨by omega, by omega⟩ (by omega) (k - 1) [0] (some ⟨wr.heap.size, 0, none⟩) 1 (wr.alloc (.cells #[.int .i64 0] 2)) (by simp; omega) (good0 (by omega)) (by simp) (World.ownsRow_lit (base := wr.heap.size) (e := 2) (size := 1) wr #[.int .i64 0] 1 (Nat.le_refl _) (by unfold maxLen; omega) rfl))
  have q0 : (0 : Int) ≤ (n : Int) := by omega
  have q1 : (n : Int) ≤ 12 := by omega
  generalize frF n = S at *
  go_enter Try.func57, Try.ntmps57
  go_wp2_with fail
  refine (in_yes _ _ _ _ q0 q1).mono ?_
  rintro e w' ⟨rfl, rfl⟩
  go_wp2_with fail
  go_loopw [4] (fun cv wr => ∃ j : Nat, j ≤ n + 1 ∧ cv = .int .i64 ((j : Int) + 1) ∧ S = tryL (gF n) (n + 1 - j) ((j : Int) + 1) ∧ w.grownBy wr none) (fun cv _ => (100 - intOf cv).toNat)
  case atStart => exact ⟨0, Nat.zero_le _, rfl, by simpa using HS.out, World.grownBy.refl _ _⟩
  case round =>
    obtain ⟨j, hj, rfl, htr, hgr⟩ := hrel
    have hlt : j < n + 1 := by
      rcases Nat.lt_or_ge j (n + 1) with h | h
      · exact h
      · obtain ⟨r, hr⟩ := HSOME.out
        rw [show n + 1 - j = 0 by omega] at htr
        rw [hr] at htr
        cases htr
    have hnx : tryL (gF n) (n + 1 - j) ((j : Int) + 1) = match gF n ((j : Int) + 1) with | some r => some r | none => tryL (gF n) (n + 1 - (j + 1)) (((j + 1 : Nat) : Int) + 1) := by
      rw [show n + 1 - j = (n + 1 - (j + 1)) + 1 by omega]
      rfl
    have hg : gF n ((j : Int) + 1) = ds (finH (n : Int)) yB (n : Int) (j + 1 - 1) [0] := by unfold gF; rw [show ((j : Int) + 1).toNat = j + 1 by omega]; rfl
    rw [hg] at hnx
    have HN := Lib.hid (htr.trans hnx)
    have HC := Lib.hid (HF0.out (j + 1) (by omega) (by omega) wr)
    have HGA := Lib.hid (hgr.trans (World.grownBy_alloc wr (.cells #[.int .i64 0] 2) none))
    have hb := hgr.size
    clear htr hnx hg
    rw [Int.natCast_add] at HC
    generalize ds (finH (n : Int)) yB (n : Int) (j + 1 - 1) [0] = D at *
    go_wp2_with fail
    refine (show Calls _ _ _ (wr.alloc (.cells #[.int .i64 0] 2)) _ from HC.out).mono ?_
    rintro e w6 ⟨A6, c6, r6, rfl, hq6, ho6, g6⟩
    have HF := Lib.hid (And.intro ho6 (HGA.out.trans g6))
    have HQ := Lib.hid hq6
    clear ho6 g6 hgr HC hq6
    cases D with
    | some r =>
      have HR := Lib.hid (show S = some r from HN.out)
      clear HN
      go_wp2_with fail
      go_ret2
      obtain rfl := HQ.out r rfl
      rw [HR.out]
      exact ⟨A6, c6, rfl, own_mono HF.out.1 hb, HF.out.2⟩
    | none =>
      have HR := Lib.hid (show S = tryL (gF n) (n + 1 - (j + 1)) (((j + 1 : Nat) : Int) + 1) from HN.out)
      clear HN
      go_wp2_with fail
      go_roundw
      case rel => exact ⟨j + 1, by omega, by go_num, HR.out, HF.out.2⟩
      case measure => simp [intOf]; omega

end Go.Proofs.Ytpeclgfopincbaa.fewS
