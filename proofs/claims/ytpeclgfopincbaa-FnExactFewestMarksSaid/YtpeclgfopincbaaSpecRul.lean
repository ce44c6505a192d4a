/- The search of the document's model for rulers. -/
import Derived.Test.YtpeclgfopincbaaRows
import Derived.Test.YtpeclgfopincbaaSlc
import Derived.Test.YtpeclgfopincbaaSmall
import Derived.Test.YtpeclgfopincbaaListI
import Derived.Test.YtpeclgfopincbaaMarks
import Derived.Test.YtpeclgfopincbaaPut
import Derived.Test.YtpeclgfopincbaaDiff
import Derived.Test.YtpeclgfopincbaaISet
import Derived.Test.YtpeclgfopincbaaISize
import Derived.Test.YtpeclgfopincbaaHoles
import Derived.Test.YtpeclgfopincbaaRuler
import Derived.Test.YtpeclgfopincbaaSearch
import Derived.Test.YtpeclgfopincbaaExt
import Derived.WalkKit
import Derived.ProofKit
import Derived.OpenShut
import Derived.ShutString
import Derived.ChangeOld
import Derived.Below
import Derived.Lib.Hide
import Derived.BigQuiet
import Derived.Deep.QuietTactic
import Derived.WalkLawsBesides
import Derived.Outline
import Derived.Deep.QuietTactic
import Derived.BigQuiet
import Derived.Deep.LoopGhost
namespace Go.Proofs.Ytpeclgfopincbaa.specRul
open Go.ChangeShapes Go.WideShapes Go.ChangeAt Go.RowKit
open Go.ChangeMaps (open_string shut_string)
set_option linter.unusedVariables false
open Go Go.RowKit
open Go.Proofs.Ytpeclgfopincbaa.slc Go.Proofs.Ytpeclgfopincbaa.small Go.Proofs.Ytpeclgfopincbaa.listI Go.Proofs.Ytpeclgfopincbaa.marks Go.Proofs.Ytpeclgfopincbaa.ruler Go.Proofs.Ytpeclgfopincbaa.search Go.Proofs.Ytpeclgfopincbaa.ext

set_option maxHeartbeats 1000000 in
set_option maxRecDepth 100000 in
theorem own_c (ad : Addr) (c B n1 : Nat) (ms : List Int) (w : World) (hl : ms.length ≤ 65536) (hn1 : n1 ≤ w.heap.size) (hr : Rd w B (some ad) ms.length (fun j => (ints ms).getD j undef)) (hB : B ≤ w.heap.size) :
    Calls Try.prog 190 #[.slice (some ad) ms.length c] w fun e w' => ∃ A' c', e = .returned (.slice A' ms.length c') ∧ w'.ownsRow n1 2 1 (.slice A' ms.length c') ms.length (ints ms) ∧ w.grownBy w' none := by
  obtain ⟨i0, hi0, hz0, hz1, hz2⟩ := info_parts ext.info64
  have ga := World.grownBy_alloc w (.cells #[] 2) none
  have ho0 := World.ownsRow_lit (base := n1) (e := 2) (size := 1) w #[] 0 hn1 (Nat.zero_le _) rfl
  have hcell : ∀ j u, (ints ms)[j]? = some u → (w.alloc (.cells #[] 2)).cell? (ad.add j) = some u := fun j u hu => by
    have hj : j < ms.length := by
      rw [← ints_len ms]
      exact (List.getElem?_eq_some_iff.1 hu).1
    obtain ⟨ad2, e2, _, c2⟩ := (hr.kept0 ga hB).at_ hj
    injection e2 with e2
    subst e2
    rw [c2]
    simp [List.getD, hu]
  have HC := Lib.hid hcell
  have HO := Lib.hid ho0
  have HG := Lib.hid ga
  have hil := ints_len ms
  clear hcell ho0 ga hr
  generalize hL : ms.length = L at *
  go_enter Try.func190, Try.ntmps190
  go_wp2_with (at_builtin; refine wpList_append_own _ rfl _ _ 45 rfl n1 2 i0 (.int .i64 0) 1 8 Try.underlying45 hi0 hz0 hz1 hz2 rfl (by decide) _ _ _ rfl HO.out ad L c (ints ms) rfl (by rw [hil, Nat.mul_one]) HC.out (by intro u hu; obtain ⟨x, _, rfl⟩ := List.mem_map.1 hu; rfl) (by unfold maxLen; omega) (by omega) (by simp; omega) ?_; intro v' w4 hown' hgrow _)
  rw [Nat.zero_add, List.nil_append] at hown'
  obtain ⟨A', c', rfl⟩ := own_form hown'
  have G4 := gb_new HG.out hgrow (by
    intro g e
    have : w.heap.size = g := by simpa [Value.ownBlock, Act.eval] using e
    omega)
  go_ret
  exact ⟨A', c', rfl, hown', G4⟩

/-- The last one is what it must be. -/
def finL (last : Int) (ms : List Int) : Bool := decide (endOf ms = last)
theorem mB_of {last : Int} {ms : List Int} (hg : GoodM last ms) (h16 : ms.length ≤ 16) (hl : last ≤ 4096) : mB ms = true :=
  decide_eq_true ⟨hg.1, h16, fun x hx => ⟨(hg.2.2 x hx).1, by have := (hg.2.2 x hx).2; omega⟩, hg.2.1⟩
set_option maxRecDepth 100000 in
set_option maxHeartbeats 4000000 in
theorem rul_s (cnt : Nat) (last : Int) (n1 : Nat) (hlast : 0 ≤ last ∧ last ≤ 1000) (hcnt : cnt ≤ 16) : ∀ (left : Nat) (ms : List Int) (A : Option Addr) (c : Nat) (W : World), ms.length + left = cnt → GoodM last ms → n1 ≤ W.heap.size → W.ownsRow n1 2 1 (.slice A ms.length c) ms.length (ints ms) →
    Calls Try.prog 135 #[.slice A ms.length c, .int .i64 (cnt : Int), .int .i64 last] W fun e W' => ∃ A' c' r, e = .returned (.tuple #[.slice A' r.length c', .bool (ds (finL last) rB last left ms).isSome]) ∧ (∀ q, ds (finL last) rB last left ms = some q → r = q) ∧ W'.ownsRow n1 2 1 (.slice A' r.length c') r.length (ints r) ∧ W.grownBy W' none := by
  intro left
  induction left with
  | zero =>
    intro ms A c W hlen hg hn1 ho
    have g1 := hg.1
    obtain ⟨ad, rfl, _, hce⟩ := (Rd.of_own ho (Nat.mul_one _).symm).at_ (show ms.length - 1 < ms.length by omega)
    have ec : (ints ms).getD (ms.length - 1) undef = .int .i64 (endOf ms) := by simp [List.getD, end_cell g1]
    rw [ec] at hce
    obtain ⟨n, hn⟩ : ∃ n, ms.length = n + 1 := ⟨ms.length - 1, by omega⟩
    have hds : ds (finL last) rB last 0 ms = if decide (endOf ms = last) = true then some ms else none := rfl
    have HD := Lib.hid hds
    have HO := Lib.hid ho
    clear hds ho ec
    have e1 : ((n : Int) + 1 == (cnt : Int)) = true := by simp; omega
    have e2 : (n : Int) < (n : Int) + 1 := by omega
    have e3 : IntKind.i64.wrap (n : Int) = (n : Int) := by rw [IntKind.wrap_i64]; omega
    have e4 : (0 : Int) ≤ (n : Int) := by omega
    rw [hn, Nat.add_sub_cancel] at hce
    have HN := Lib.hid hn
    have hR : (ds (finL last) rB last 0 ms).isSome = decide (endOf ms = last) ∧ ∀ q, ds (finL last) rB last 0 ms = some q → ms = q := by
      rw [HD.out]
      by_cases h : endOf ms = last
      · rw [if_pos (decide_eq_true h), decide_eq_true h]
        exact ⟨rfl, fun q hq => by injection hq⟩
      · rw [if_neg (by simpa using h), decide_eq_false h]
        exact ⟨rfl, fun q hq => by cases hq⟩
    have HRR := Lib.hid hR
    clear hR HD hlen
    rw [hn]
    clear hn
    generalize hE : endOf ms = E at *
    go_enter Try.func135, Try.ntmps135
    go_wp2_with fail
    go_quiet (fail)
    go_wp2_with fail
    go_ret2
    refine ⟨some ad, c, ms, ?_, HRR.out.2, own_kept0 HO.out (gb_drewN _ _ _), gb_drewN _ _ _⟩
    rw [HRR.out.1, HN.out]
    first | rfl | simp
  | succ left ih =>
    intro ms A c W hlen hg hn1 ho
    have g1 := hg.1
    have hml : ms.length ≤ 16 := by omega
    obtain ⟨ad, rfl, _, hce⟩ := (Rd.of_own ho (Nat.mul_one _).symm).at_ (show ms.length - 1 < ms.length by omega)
    have ec : (ints ms).getD (ms.length - 1) undef = .int .i64 (endOf ms) := by simp [List.getD, end_cell g1]
    rw [ec] at hce
    obtain ⟨f, hf⟩ : ∃ f : Int → Option (List Int), f = fun m => if rB (ms ++ [m]) = true then ds (finL last) rB last left (ms ++ [m]) else none := ⟨_, rfl⟩
    obtain ⟨K, hK⟩ : ∃ K : Nat, K = (last - endOf ms).toNat := ⟨_, rfl⟩
    have hds : ds (finL last) rB last (left + 1) ms = tryL f K (endOf ms + 1) := by rw [hf, hK]; rfl
    rw [hds]
    have HF := Lib.hid hf
    have HKK := Lib.hid hK
    have HIH := Lib.hid ih
    have HO := Lib.hid ho
    have HGM := Lib.hid hg
    have HL := Lib.hid hlen
    have hend := hg.2.2 _ (end_mem g1)
    have hne : ((ms.length : Int) == (cnt : Int)) = false := by simp; omega
    have hwo := fun (wr : World) (g : W.grownBy wr none) => own_c ad c wr.heap.size wr.heap.size ms wr (by omega) (Nat.le_refl _) (((Rd.of_own ho (Nat.mul_one _).symm).kept0 g (Nat.le_refl _)).mono g.size) (Nat.le_refl _)
    have HOC := Lib.hid hwo
    obtain ⟨i0, hi0, hz0, hz1, hz2⟩ := info_parts ext.info64
    clear hds hf hK ih ec hwo ho
    generalize hE : endOf ms = E at *
    have HE := Lib.hid hE
    clear hE
    have q1 : IntKind.i64.wrap ((ms.length : Int) - 1) = ((ms.length - 1 : Nat) : Int) := by rw [IntKind.wrap_i64]; omega
    have q2 : (ms.length : Int) - 1 = ((ms.length - 1 : Nat) : Int) := by omega
    have q3 : (0 : Int) ≤ ((ms.length - 1 : Nat) : Int) := by omega
    have q4 : ((ms.length - 1 : Nat) : Int) < (ms.length : Int) := by omega
    have q5 : (0 : Int) < (ms.length : Int) := by omega
    have q6 : 0 < ms.length := by omega
    have HQ5 := Lib.hid q6
    clear hlen
    generalize hN : ms.length = n at *
    have HN := Lib.hid hN
    clear hN
    generalize n - 1 = p at *
    go_enter Try.func135, Try.ntmps135
    go_wp2_with fail
    have hKE : ∀ j : Nat, j < K ↔ E + 1 + (j : Int) ≤ last := fun j => by rw [HKK.out]; omega
    clear hce q1 q2 q3 q4
    go_loopw [10] (fun mv wr => ∃ j : Nat, j ≤ K ∧ mv = .int .i64 (E + 1 + (j : Int)) ∧ tryL f K (E + 1) = tryL f (K - j) (E + 1 + (j : Int)) ∧ W.grownBy wr none) (fun mv _ => (3000 - intOf mv).toNat)
    case atStart => exact ⟨0, Nat.zero_le _, by simp, by simp, World.grownBy.refl _ _⟩
    case round =>
      obtain ⟨j, hj, rfl, htr, hgr⟩ := hrel
      have hjk := hKE j
      by_cases hlt : j < K
      · have hle := hjk.1 hlt
        have hm1 : E < E + 1 + (j : Int) := by omega
        have hnx : tryL f (K - j) (E + 1 + (j : Int)) = match f (E + 1 + (j : Int)) with | some r => some r | none => tryL f (K - (j + 1)) (E + 1 + ((j + 1 : Nat) : Int)) := by
          rw [show K - j = (K - (j + 1)) + 1 by omega, show E + 1 + ((j + 1 : Nat) : Int) = E + 1 + (j : Int) + 1 by omega]
          rfl
        have hfm : f (E + 1 + (j : Int)) = if rB (ms ++ [E + 1 + (j : Int)]) = true then ds (finL last) rB last left (ms ++ [E + 1 + (j : Int)]) else none := by rw [HF.out]
        rw [hfm] at hnx
        have HNX := Lib.hid (htr.trans hnx)
        have HGS := Lib.hid (HGM.out.snoc (m := E + 1 + (j : Int)) (by rw [HE.out]; exact hm1) hle)
        have HJ := Lib.hid (show E + 1 + ((j + 1 : Nat) : Int) = E + 1 + (j : Int) + 1 by omega)
        have HOW := Lib.hid (HOC.out wr hgr)
        have hs0 := Nat.le_trans hn1 hgr.size
        clear htr hnx hfm hjk hKE HOC HO
        generalize hM : E + 1 + (j : Int) = m at *
        clear hM
        go_wp2_with fail
        refine HOW.out.mono ?_
        rintro e w1 ⟨A1, c1, rfl, ho1, g1'⟩
        have G1 := hgr.trans g1'
        have hs1 := g1'.size
        have hsw := hgr.size
        have HG1 := Lib.hid G1
        clear g1' G1 HOW hgr
        go_wp2_with (at_builtin; refine wpList_append_own _ rfl _ _ 45 rfl wr.heap.size 2 i0 (.int .i64 0) 1 8 Try.underlying45 hi0 hz0 hz1 hz2 rfl (by decide) _ _ _ rfl (ho1.alloc _) ⟨w1.heap.size, 0, none⟩ 1 1 [.int .i64 m] rfl rfl (cell_one_new _ _ _) (by simp [Value.oneCell']) (by unfold maxLen; omega) (by omega) (by simp; omega) ?_; intro v' w4 hown' hgrow _)
        have hl5 : (ms ++ [m]).length = n + 1 := by rw [List.length_append, HN.out]; rfl
        obtain ⟨A4, c4, rfl⟩ := own_form hown'
        have ho4 : w4.ownsRow wr.heap.size 2 1 (.slice A4 (n + 1) c4) (n + 1) (ints (ms ++ [m])) := by rw [← slc.ints_snoc]; exact hown'
        have G4 := gb_new (HG1.out.trans (World.grownBy_alloc w1 (.cells #[.int .i64 m] 2) none)) hgrow (by intro g e; have := (ho1.lt g e).1; omega)
        have R4 := Rd.of_own ho4 (Nat.mul_one _).symm
        have HRU := Lib.hid (show Calls Try.prog 191 #[.slice A4 (n + 1) c4] w4 (fun e w' => e = .returned (.bool (rB (ms ++ [m]))) ∧ w4.grownBy w' none) by
          have h := ruler_spec A4 c4 w4.heap.size (ms ++ [m]) w4 (mB_of HGS.out (by rw [hl5]; have := HL.out; omega) (by omega)) (by rw [hl5]; exact R4) (Nat.le_refl _)
          rw [hl5] at h
          exact h)
        have HCALL := Lib.hid (fun (w5 : World) (g : w4.grownBy w5 none) => (show Calls _ _ #[.slice A4 (n + 1) c4, _, _] _ _ from hl5 ▸ HIH.out (ms ++ [m]) A4 c4 w5 (by rw [hl5]; have := HL.out; omega) HGS.out (Nat.le_trans hn1 (G4.trans g).size) (by rw [hl5]; exact own_mono (own_kept0 ho4 g) hs0)))
        have HG4 := Lib.hid G4
        clear hown' hgrow ho1 ho4 R4 G4 HG1
        cases hrb : rB (ms ++ [m]) with
        | false =>
          rw [hrb] at HRU HNX
          have HNX2 := Lib.hid (show tryL f K (E + 1) = tryL f (K - (j + 1)) (E + 1 + ((j + 1 : Nat) : Int)) from HNX.out)
          clear HNX HCALL hrb
          refine HRU.out.mono ?_
          rintro e w5 ⟨rfl, g5⟩
          have HG5 := Lib.hid (HG4.out.trans g5)
          clear g5 HG4 HRU
          go_wp2_with fail
          go_roundw
          case rel => exact ⟨j + 1, by omega, by rw [HJ.out], HNX2.out, HG5.out⟩
          case measure => simp [intOf]; omega
        | true =>
          rw [hrb] at HRU HNX
          clear hrb
          refine HRU.out.mono ?_
          rintro e w5 ⟨rfl, g5⟩
          have HC5 := Lib.hid (HCALL.out w5 g5)
          have HG5 := Lib.hid (HG4.out.trans g5)
          clear g5 HG4 HRU HCALL
          have HNX2 := Lib.hid (show tryL f K (E + 1) = match ds (finL last) rB last left (ms ++ [m]) with | some r => some r | none => tryL f (K - (j + 1)) (E + 1 + ((j + 1 : Nat) : Int)) from HNX.out)
          clear HNX
          generalize ds (finL last) rB last left (ms ++ [m]) = D at *
          go_wp2_with fail
          refine HC5.out.mono ?_
          rintro e w6 ⟨A6, c6, r6, rfl, hq6, ho6, g6⟩
          have HG6 := Lib.hid (HG5.out.trans g6)
          have HO6 := Lib.hid ho6
          clear g6 ho6 HC5 HG5
          cases D with
          | some r =>
            obtain rfl := hq6 r rfl
            have HR := Lib.hid (show tryL f K (E + 1) = some r6 from HNX2.out)
            clear HNX2 hq6
            go_wp2_with fail
            go_ret2
            exact ⟨A6, c6, r6, by rw [HR.out]; rfl, fun q hq => by rw [HR.out] at hq; (injection hq), HO6.out, HG6.out⟩
          | none =>
            have HR := Lib.hid (show tryL f K (E + 1) = tryL f (K - (j + 1)) (E + 1 + ((j + 1 : Nat) : Int)) from HNX2.out)
            clear HNX2 hq6 HO6
            go_wp2_with fail
            go_roundw
            case rel => exact ⟨j + 1, by omega, by rw [HJ.out], HR.out, HG6.out⟩
            case measure => simp [intOf]; omega
      · obtain rfl : j = K := by omega
        have HR := Lib.hid (show tryL f j (E + 1) = none by rw [htr, Nat.sub_self]; rfl)
        have hgt : last < E + 1 + (j : Int) := by have := hKE j; omega
        have ga := World.grownBy_alloc wr (.cells #[] 2) none
        have ho0 := World.ownsRow_lit (base := n1) (e := 2) (size := 1) wr #[] 0 (Nat.le_trans hn1 hgr.size) (Nat.zero_le _) rfl
        have HFF := Lib.hid (And.intro ho0 (hgr.trans ga))
        clear htr hKE hjk ga ho0 hgr
        generalize E + 1 + (j : Int) = m at *
        go_wp2_with fail
        go_ret2
        exact ⟨_, _, [], by rw [HR.out]; rfl, fun q hq => by rw [HR.out] at hq; (cases hq), HFF.out.1, HFF.out.2⟩

end Go.Proofs.Ytpeclgfopincbaa.specRul
