/- Plans by the program. -/
import Derived.Test.YtmemclcoegmjjaaRows
import Derived.Test.YtmemclcoegmjjaaSlc
import Derived.Test.YtmemclcoegmjjaaSmall
import Derived.Test.YtmemclcoegmjjaaOpens
import Derived.Test.YtmemclcoegmjjaaBeams
import Derived.Test.YtmemclcoegmjjaaListBeam
import Derived.Test.YtmemclcoegmjjaaListSlot
import Derived.Test.YtmemclcoegmjjaaPlanNum
import Derived.Test.YtmemclcoegmjjaaSwT
import Derived.Test.YtmemclcoegmjjaaBeamsOk
import Derived.Test.YtmemclcoegmjjaaPlanDue
import Derived.WalkKit
import Derived.ProofKit
import Derived.OpenShut
import Derived.ShutString
import Derived.ChangeOld
import Derived.Below
import Derived.Lib.Hide
import Derived.BigQuiet
import Derived.Deep.QuietTactic
import Derived.WalkLawsBesides
import Derived.Outline
import Derived.Deep.QuietTactic
import Derived.BigQuiet
import Derived.Deep.LoopGhost
import Derived.Deep.RegionWith
import Derived.Deep.RegionHeld3
import Derived.Deep.CutRange
import Derived.Deep.CutBlock
import Derived.Deep.DeepCutAuto
namespace Go.Proofs.Ytmemclcoegmjjaa.planIs
open Go.ChangeShapes Go.WideShapes Go.ChangeAt Go.RowKit
open Go.ChangeMaps (open_string shut_string)
set_option linter.unusedVariables false
open Go Go.RowKit
open Go.Proofs.Ytmemclcoegmjjaa.slc Go.Proofs.Ytmemclcoegmjjaa.small Go.Proofs.Ytmemclcoegmjjaa.opens Go.Proofs.Ytmemclcoegmjjaa.beams Go.Proofs.Ytmemclcoegmjjaa.listBeam Go.Proofs.Ytmemclcoegmjjaa.planNum Go.Proofs.Ytmemclcoegmjjaa.swT Go.Proofs.Ytmemclcoegmjjaa.beamsOk Go.Proofs.Ytmemclcoegmjjaa.planDue

theorem pl_ab {bs : List Bm} {ss : List Sl} (h : ab bs = false) : pl bs ss = false := by unfold pl; rw [h]; rfl
theorem pl_sp {bs : List Bm} {ss : List Sl} (h : sp bs ss = false) : pl bs ss = false := by unfold pl; rw [h]; simp
theorem pl_mk {bs : List Bm} {ss : List Sl} (h : ab bs = true) (h2 : sp bs ss = true) : pl bs ss = true := by unfold pl; rw [h, h2]; rfl

set_option maxHeartbeats 1600000 in
set_option maxRecDepth 100000 in
theorem is_impl (A : Option Addr) (c : Nat) (A' : Option Addr) (c' B : Nat) (bs : List Bm) (ss : List Sl) (w : World) (hm : bs.length ≤ 9223372036854775807) (hm' : ss.length ≤ 9223372036854775807) (hr : Rd w B A (bs.length * 4) (bcell bs)) (hr' : Rd w B A' (ss.length * 2) (pcell ss)) (hB : B ≤ w.heap.size) :
    Calls Try.prog 36 #[.slice A bs.length c, .slice A' ss.length c'] w fun e w' => e = .returned (.bool (pl bs ss)) ∧ w.grownBy w' none := by
  have HA0 := are_impl A c B bs w hm hr hB
  cases ha : ab bs
  · rw [pl_ab ha]
    rw [ha] at HA0
    have HA := Lib.hid HA0
    clear HA0 hr hr' ha
    go_enter Try.func36, Try.ntmps36
    go_wp2_with fail
    refine HA.out.mono ?_
    rintro e w1 ⟨rfl, g1⟩
    go_wp2_with fail
    go_ret
    exact ⟨rfl, g1⟩
  · rw [ha] at HA0
    have HA := Lib.hid HA0
    clear HA0
    by_cases hl : 200 < ss.length
    · rw [pl_sp (sp_long hl)]
      clear hr hr' ha
      go_enter Try.func36, Try.ntmps36
      go_wp2_with fail
      refine HA.out.mono ?_
      rintro e w1 ⟨rfl, g1⟩
      go_wp2_with fail
      go_ret
      exact ⟨rfl, g1⟩
    · have hs : ss.length ≤ 200 := by omega
      have hk := BsOk.of ha
      have HR := Lib.hid (fun (w' : World) (hg : w.grownBy w' none) => hr.kept0 hg hB)
      have HR' := Lib.hid (fun (w' : World) (hg : w.grownBy w' none) => hr'.kept0 hg hB)
      have HSL := Lib.hid (fun b t w => slot_c A c bs b t w hk)
      have HDU := Lib.hid (fun (h1 : ∀ k, k < ss.length → one bs (sg ss k) = true) (w' : World) (hg : w.grownBy w' none) => due_c A A' c c' B bs ss w' hk h1 hs (hr.kept0 hg hB) (hr'.kept0 hg hB) (Nat.le_trans hB hg.size))
      have HEN := Lib.hid (fun (j t : Nat) (hj : j < bs.length) (ht : t ≤ 100000) (w' : World) (hg : w.grownBy w' none) => end_c A c B bs j t w' hk hj (by omega) (by omega) (hr.kept0 hg hB) (Nat.le_trans hB hg.size))
      have HTU := Lib.hid (fun (j i : Nat) (t : Nat) (hj : j < bs.length) (hi : i < bs.length) (w' : World) (hg : w.grownBy w' none) => turn_c A c B bs j i t w' hk hj hi (hr.kept0 hg hB) (Nat.le_trans hB hg.size))
      have HK := Lib.hid hk
      have HBAD := Lib.hid (fun (k : Nat) (h1 : k < ss.length) (h2 : slotB bs ss k = false) => pl_sp (sp_bad h1 h2))
      have HGOOD := Lib.hid (fun (h : ∀ k, k < ss.length → slotB bs ss k = true) => pl_mk ha (sp_all hs h))
      have hl7 := hk.len
      clear hr hr' hk ha hl
      go_enter Try.func36, Try.ntmps36
      go_wp2_with fail
      refine HA.out.mono ?_
      rintro e w1 ⟨rfl, g1⟩
      have HG1 := Lib.hid g1
      clear g1
      go_wp2_with fail
      go_loopw [20] (fun i wr => ∃ k : Nat, k ≤ ss.length ∧ i = .int .i64 k ∧ (∀ i, i < k → one bs (sg ss i) = true) ∧ w.grownBy wr none) (fun i _ => ss.length - (intOf i).toNat)
      case atStart => exact ⟨0, Nat.zero_le _, rfl, fun _ h => absurd h (by omega), HG1.out⟩
      case round =>
        obtain ⟨k, hkn, rfl, hpre, hg⟩ := hrel
        by_cases hlt : k < ss.length
        · obtain ⟨ad', x, y, rfl, _, hxy, hs0, hs1⟩ := Rd.slot (HR'.out wr hg) hlt
          have HPR := Lib.hid hpre
          have HX := Lib.hid hxy
          have HG := Lib.hid hg
          clear hpre hxy hg
          go_wp2_with fail
          refine (HSL.out _ _ _).mono ?_
          rintro e w2 ⟨rfl, hg2⟩
          have HG2 := Lib.hid (HG.out.trans ((World.grownBy_alloc _ _ none).trans hg2))
          clear hg2 hs0 hs1
          cases hd : one bs (x, y)
          · have HV := Lib.hid (HBAD.out k hlt (one_bad (by rw [HX.out]; exact hd)))
            clear hd
            go_wp2_with fail
            go_ret
            exact ⟨ret_bool HV.out.symm, HG2.out⟩
          · have HU := Lib.hid (fun i (hi : i < k + 1) => show one bs (sg ss i) = true by
              by_cases e : i = k
              · subst e; rw [HX.out]; exact hd
              · exact HPR.out i (by omega))
            clear hd
            go_wp2_with fail
            go_roundw
            case rel => exact ⟨k + 1, by omega, by go_num, HU.out, HG2.out⟩
            case measure => simp [intOf]; omega
        · obtain rfl : k = ss.length := by omega
          have HO := Lib.hid hpre
          have HD := Lib.hid (HDU.out hpre wr hg)
          have HG := Lib.hid hg
          clear hpre hg
          go_wp2_with fail
          refine HD.out.mono ?_
          rintro e w9 ⟨A2, c2, rfl, ho9, hg9⟩
          have HRD := Lib.hid (fun (w' : World) (hg : w9.grownBy w' none) => (Rd.of_lst ho9 (Nat.mul_one _).symm).kept0 hg (Nat.le_refl _))
          have HG9 := Lib.hid (HG.out.trans hg9)
          clear ho9 hg9
          go_wp2_with fail
          go_loopw [33] (fun i wr => ∃ k : Nat, k ≤ ss.length ∧ i = .int .i64 k ∧ (∀ i, i < k → slotB bs ss i = true) ∧ w9.grownBy wr none) (fun i _ => ss.length - (intOf i).toNat)
          case atStart => exact ⟨0, Nat.zero_le _, rfl, fun _ h => absurd h (by omega), World.grownBy.refl _ _⟩
          case round =>
            obtain ⟨k, hkn, rfl, hpre, hg⟩ := hrel
            by_cases hlt : k < ss.length
            · have hgw := HG9.out.trans hg
              obtain ⟨ad', x, y, rfl, _, hxy, hs0, hs1⟩ := Rd.slot (HR'.out wr hgw) hlt
              obtain ⟨j, t, e, hj, ht⟩ := one_yes (HO.out k hlt)
              rw [hxy] at e
              obtain ⟨rfl, rfl⟩ : x = (j : Int) ∧ y = (t : Int) := by injection e with a b; exact ⟨a, b⟩
              obtain ⟨ad, u, v, d, s, rfl, _, hx, _, _, _, hc3⟩ := Rd.four (HR.out wr hgw) hj
              obtain ⟨bd, rfl, _, hdu⟩ := (HRD.out wr hg).at_ hlt
              have hn := HK.out.num j hj
              rw [show bg bs j = _ from hx] at hn
              replace hn : 1 ≤ d ∧ d ≤ 10000 ∧ d ≤ s ∧ s ≤ 10000 := hn
              have hev : ev bs j = s := by unfold ev; rw [show bg bs j = _ from hx]
              obtain ⟨c0, c1⟩ := cnt_bd bs ss k j (by omega) (by omega) (by omega)
              have hduv : du bs ss k = cnt ss j k * ev bs j + ev bs j := by
                unfold du
                rw [hxy]
                show ((cnt ss (j : Int).toNat k : Int) + 1) * ev bs (j : Int).toNat = _
                rw [Int.toNat_natCast, Int.add_mul, Int.one_mul]
              have h2 : two bs ss k = decide (cnt ss j k * ev bs j ≤ (t : Int)) := by unfold two; rw [hxy]; rfl
              have h1 := HO.out k hlt
              rw [hduv] at hdu
              rw [hev] at hdu c0 c1 h2
              have hga := World.grownBy_alloc wr (.cells #[.int .i64 j, .int .i64 t] 71) none
              obtain ⟨p1, p2⟩ := boxed2 (World.grownBy.refl (wr.alloc (.cells #[.int .i64 j, .int .i64 t] 71)) none)
              have q3 := hga.cell hc3 (by simp)
              have HGA := Lib.hid (hgw.trans hga)
              have HGA9 := Lib.hid (hg.trans hga)
              have j0 : (0 : Int) ≤ (j : Int) := by omega
              have j1 : (j : Int) < (bs.length : Int) := by omega
              have HPR := Lib.hid hpre
              have HX := Lib.hid hxy
              generalize (cnt ss j k : Int) * s = N at *
              have w1 : IntKind.i64.wrap (N + s - s) = N := by rw [IntKind.wrap_i64]; omega
              have w2 : IntKind.i64.wrap N = N := by rw [IntKind.wrap_i64]; omega
              clear hpre hxy hg hgw hga hx hev hduv e
              by_cases htw : (t : Int) < N
              · have HV := Lib.hid (HBAD.out k hlt (two_bad (by rw [h2]; exact decide_eq_false (by omega))))
                clear h1 h2
                go_wp2_with fail
                go_quiet (fail)
                go_wp2_with fail
                go_ret
                exact ⟨ret_bool HV.out.symm, HGA.out.trans (gb_drewN _ _ _)⟩
              · have hNt : N ≤ (t : Int) := by omega
                have h2t : two bs ss k = true := by rw [h2]; exact decide_eq_true hNt
                by_cases hk0 : k = 0
                · have HU := Lib.hid (fun i (hi : i < k + 1) => show slotB bs ss i = true by
                    have e0 : i = k := by omega
                    subst e0
                    exact slot_mk h1 h2t (by unfold three; exact decide_eq_true (.inl hk0)))
                  have z1 : decide ((0 : Int) < (k : Int)) = false := decide_eq_false (by omega)
                  have z2 : decide (0 < k) = false := decide_eq_false (by omega)
                  have z3 : ¬ (0 : Int) < (k : Int) := by omega
                  have z4 : ¬ 0 < k := by omega
                  clear h1 h2 h2t hk0
                  go_wp2_with fail
                  go_quiet (fail)
                  go_wp2_with fail
                  go_quiet (fail)
                  go_wp2_with fail
                  go_roundw
                  case rel => exact ⟨k + 1, by omega, by go_num, HU.out, HGA9.out.trans (by repeat (first | exact gb_drewN _ _ _ | refine World.grownBy.trans (gb_drewN _ _ none) ?_))⟩
                  case measure => simp [intOf]; omega
                · obtain ⟨q, hq⟩ : ∃ q : Nat, k = q + 1 := ⟨k - 1, by omega⟩
                  have hqk : (k : Int) - 1 = (q : Int) := by omega
                  have hql : q < ss.length := by omega
                  obtain ⟨ad2, x', y', e2, _, hxy', ht0, ht1⟩ := Rd.slot (HR'.out _ HGA.out) hql
                  obtain rfl : ad' = ad2 := by injection e2
                  obtain ⟨j', t', e, hj', ht'⟩ := one_yes (HO.out q hql)
                  rw [hxy'] at e
                  obtain ⟨rfl, rfl⟩ : x' = (j' : Int) ∧ y' = (t' : Int) := by injection e with a b; exact ⟨a, b⟩
                  have h3 : three bs ss k = decide ((t' : Int) + dw bs j' + tu bs j' j ≤ (t : Int)) := by
                    unfold three
                    rw [show k - 1 = q by omega, HX.out, hxy']
                    show decide (k = 0 ∨ (t' : Int) + dw bs (j' : Int).toNat + tu bs (j' : Int).toNat (j : Int).toNat ≤ (t : Int)) = _
                    rw [Int.toNat_natCast, Int.toNat_natCast]
                    congr 1
                    simp [hk0]
                  have b1 := HK.out.num j' hj'
                  have b2 : 0 ≤ tu bs j' j ∧ tu bs j' j ≤ 8 := sw_bd (HK.out.bd j' hj') (HK.out.bd j hj)
                  have b3 : dw bs j' = (bg bs j').2.2.1 := rfl
                  have HE := Lib.hid (HEN.out j' t' hj' ht')
                  have HT := Lib.hid (HTU.out j' j t' hj' hj)
                  have HPX := Lib.hid (fun i (hi : i < k) => HPR.out i hi)
                  rw [← b3] at b1
                  generalize dw bs j' = DW at *
                  generalize tu bs j' j = TU at *
                  have z1 : decide ((0 : Int) < (k : Int)) = true := decide_eq_true (by omega)
                  have z2 : decide (0 < k) = true := decide_eq_true (by omega)
                  have z3 : (0 : Int) < (k : Int) := by omega
                  have z4 : 0 < k := by omega
                  have q0 : (0 : Int) ≤ (q : Int) := by omega
                  have q1 : (q : Int) < (ss.length : Int) := by omega
                  have q2 : IntKind.i64.wrap ((k : Int) - 1) = (q : Int) := by rw [IntKind.wrap_i64]; omega
                  have q4 : IntKind.i64.wrap (q : Int) = (q : Int) := by rw [IntKind.wrap_i64]; omega
                  have q5 : IntKind.i64.wrap ((t' : Int) + DW + TU) = (t' : Int) + DW + TU := by rw [IntKind.wrap_i64]; omega
                  have q6 := HGA9.out
                  have HH1 := Lib.hid (And.intro h1 h2t)
                  have HX' := Lib.hid hxy'
                  have HQ := Lib.hid hq
                  clear h1 h2 h2t e hxy' e2 b3 hq hk0
                  go_wp2_with fail
                  go_quiet (fail)
                  go_wp2_with fail
                  generalize hwb : wr.alloc (.cells #[.int .i64 j, .int .i64 t] 71) = wb at *
                  generalize hgb : wr.heap.size = gb at *
                  clear hwb hgb q3 hc3 hs0 hs1 hdu
                  go_region_held3 (fun w' => w'.cell? ⟨gb, 0, none⟩ = some (.int .i64 j) ∧ w'.cell? ⟨gb, 1, none⟩ = some (.int .i64 t) ∧ w'.cell? (ad'.add (q * 2)) = some (.int .i64 j') ∧ w'.cell? ⟨(ad'.add (q * 2)).block, (ad'.add (q * 2)).off + 1, none⟩ = some (.int .i64 t') ∧ w9.grownBy w' none)
                    (first
                      | (go_split_ands
                         exact ⟨hg.cell (by assumption) (by simp), hg.cell (by assumption) (by simp), hg.cell (by assumption) (by simp), hg.cell (by assumption) (by simp), World.grownBy.trans (by assumption) hg⟩)
                      | exact ⟨p1, p2, ht0, ht1, ⟨q6.os, q6.tape, q6.output, q6.size, q6.block⟩⟩)
                    ((first
                      | (go_at_call 93; refine (HE.out _ (HG9.out.trans ?_)).mono ?_; (first | exact ⟨q6.os, q6.tape, q6.output, q6.size, q6.block⟩); rintro e w' ⟨rfl, hg⟩; have gE : w9.grownBy w' none := (by refine World.grownBy.trans ?_ hg; exact ⟨q6.os, q6.tape, q6.output, q6.size, q6.block⟩))
                      | (go_at_call 92; refine (HT.out _ (HG9.out.trans ?_)).mono ?_; (first | exact gE | exact ⟨gE.os, gE.tape, gE.output, gE.size, gE.block⟩); rintro e w6 ⟨rfl, hg⟩; have gT : w9.grownBy w6 none := (by refine World.grownBy.trans ?_ hg; exact ⟨gE.os, gE.tape, gE.output, gE.size, gE.block⟩))))
                  by_cases hlt3 : (t : Int) < (t' : Int) + DW + TU
                  · have HV := Lib.hid (HBAD.out k hlt (three_bad (by rw [h3]; exact decide_eq_false (by omega))))
                    have HGT := Lib.hid (HG9.out.trans gT)
                    clear h3 gT gE
                    go_wp2_with fail
                    go_ret
                    exact ⟨ret_bool HV.out.symm, HGT.out⟩
                  · have HS3 := Lib.hid (show slotB bs ss k = true from slot_mk HH1.out.1 HH1.out.2 (by rw [h3]; exact decide_eq_true (by omega)))
                    have HU := Lib.hid (fun i (hi : i < k + 1) => show slotB bs ss i = true by
                      by_cases e : i = k
                      · subst e; exact HS3.out
                      · exact HPX.out i (by omega))
                    have HGT := Lib.hid gT
                    clear h3 gT gE
                    go_wp2_with fail
                    go_roundw
                    case rel => exact ⟨k + 1, by omega, by go_num, HU.out, HGT.out⟩
                    case measure => simp [intOf]; omega
            · obtain rfl : k = ss.length := by omega
              have HV := Lib.hid (HGOOD.out hpre)
              have HGZ := Lib.hid (HG9.out.trans hg)
              clear hpre hg
              go_wp2_with fail
              go_ret
              exact ⟨ret_bool HV.out.symm, HGZ.out⟩

end Go.Proofs.Ytmemclcoegmjjaa.planIs
