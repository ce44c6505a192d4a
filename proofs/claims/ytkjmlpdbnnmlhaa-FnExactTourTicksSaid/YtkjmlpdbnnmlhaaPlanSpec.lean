/- Plans by the model. -/
import Derived.Test.YtkjmlpdbnnmlhaaRows
import Derived.Test.YtkjmlpdbnnmlhaaSlc
import Derived.Test.YtkjmlpdbnnmlhaaSmall
import Derived.Test.YtkjmlpdbnnmlhaaOpens
import Derived.Test.YtkjmlpdbnnmlhaaBeams
import Derived.Test.YtkjmlpdbnnmlhaaListBeam
import Derived.Test.YtkjmlpdbnnmlhaaListSlot
import Derived.Test.YtkjmlpdbnnmlhaaPlanNum
import Derived.Test.YtkjmlpdbnnmlhaaSwT
import Derived.Test.YtkjmlpdbnnmlhaaBeamsOk
import Derived.Test.YtkjmlpdbnnmlhaaPlanDue
import Derived.WalkKit
import Derived.ProofKit
import Derived.OpenShut
import Derived.ShutString
import Derived.ChangeOld
import Derived.Below
import Derived.Lib.Hide
import Derived.BigQuiet
import Derived.Deep.QuietTactic
import Derived.WalkLawsBesides
import Derived.Outline
import Derived.Deep.QuietTactic
import Derived.BigQuiet
import Derived.Deep.LoopGhost
import Derived.Deep.RegionWith
import Derived.Deep.RegionHeld3
import Derived.Deep.CutRange
import Derived.Deep.CutBlock
import Derived.Deep.DeepCutAuto
namespace Go.Proofs.Ytkjmlpdbnnmlhaa.planSpec
open Go.ChangeShapes Go.WideShapes Go.ChangeAt Go.RowKit
open Go.ChangeMaps (open_string shut_string)
set_option linter.unusedVariables false
open Go Go.RowKit
open Go.Proofs.Ytkjmlpdbnnmlhaa.slc Go.Proofs.Ytkjmlpdbnnmlhaa.small Go.Proofs.Ytkjmlpdbnnmlhaa.opens Go.Proofs.Ytkjmlpdbnnmlhaa.beams Go.Proofs.Ytkjmlpdbnnmlhaa.listBeam Go.Proofs.Ytkjmlpdbnnmlhaa.planNum Go.Proofs.Ytkjmlpdbnnmlhaa.swT Go.Proofs.Ytkjmlpdbnnmlhaa.beamsOk Go.Proofs.Ytkjmlpdbnnmlhaa.planDue

def cn (ss : List Sl) (k : Nat) (j : Nat) : Value := .int .i64 (cnt ss j k : Nat)
theorem cn_zero (ss : List Sl) (n : Nat) : lst (fun _ => Value.int .i64 0) n = lst (cn ss 0) n := lst_congr fun j _ => by unfold cn cnt; simp
theorem cn_set (ss : List Sl) (k j n : Nat) (hj : (sg ss k).1 = (j : Int)) (hn : j < n) : (lst (cn ss k) n).set j (.int .i64 ((cnt ss j k : Int) + 1)) = lst (cn ss (k + 1)) n := by
  apply List.ext_getElem?
  intro i
  rw [List.getElem?_set]
  by_cases hi : j = i
  · subst hi
    rw [if_pos rfl, if_pos (by rw [lst_len]; exact hn), lst_get _ _ _ hn]
    unfold cn
    rw [show cnt ss j (k + 1) = cnt ss j k + 1 from by show cnt ss j k + _ = _; rw [if_pos hj]]
    simp
  · rw [if_neg hi]
    by_cases h2 : i < n
    · rw [lst_get _ _ _ h2, lst_get _ _ _ h2]
      unfold cn
      rw [show cnt ss i (k + 1) = cnt ss i k from by show cnt ss i k + _ = _; rw [if_neg (by rw [hj]; omega)]; rfl]
    · rw [List.getElem?_eq_none (by rw [lst_len]; omega), List.getElem?_eq_none (by rw [lst_len]; omega)]
theorem q_yes (n lo hi : Int) (w : World) (q : Nat) (h : lo ≤ n) (h2 : n ≤ hi) : Calls Try.prog 71 #[.int .i64 n, .int .i64 lo, .int .i64 hi] (w.drewN q) fun e w' => e = .returned (.bool true) ∧ ∃ m, w' = w.drewN m :=
  Calls.quiet_of_same ((in_yes n lo hi (w.drewN q) h h2).mono (by rintro e w' ⟨rfl, rfl⟩; exact ⟨rfl, rfl⟩))
theorem q_no (n lo hi : Int) (w : World) (q : Nat) (h : n < lo ∨ hi < n) : Calls Try.prog 71 #[.int .i64 n, .int .i64 lo, .int .i64 hi] (w.drewN q) fun e w' => e = .returned (.bool false) ∧ ∃ m, w' = w.drewN m :=
  Calls.quiet_of_same ((in_no n lo hi (w.drewN q) h).mono (by rintro e w' ⟨rfl, rfl⟩; exact ⟨rfl, rfl⟩))
theorem one_no {bs : List Bm} {x y : Int} (h : ¬ (0 ≤ x ∧ x ≤ (bs.length : Int) - 1 ∧ 0 ≤ y ∧ y ≤ 100000)) : one bs (x, y) = false := decide_eq_false h

set_option maxHeartbeats 3200000 in
set_option maxRecDepth 100000 in
theorem slots_spec (A : Option Addr) (c : Nat) (A' : Option Addr) (c' B : Nat) (bs : List Bm) (ss : List Sl) (w : World) (hk : BsOk bs) (hm' : ss.length ≤ 9223372036854775807) (hr : Rd w B A (bs.length * 4) (bcell bs)) (hr' : Rd w B A' (ss.length * 2) (pcell ss)) (hB : B ≤ w.heap.size) :
    Calls Try.prog 80 #[.slice A bs.length c, .slice A' ss.length c'] w fun e w' => e = .returned (.bool (sp bs ss)) ∧ w.grownBy w' none := by
  by_cases hl : 200 < ss.length
  · rw [sp_long hl]
    clear hr hr' hk
    go_enter Try.func80, Try.ntmps80
    go_wp2_with fail
    go_ret
    exact ⟨rfl, World.grownBy.refl _ _⟩
  · have hs : ss.length ≤ 200 := by omega
    have HR := Lib.hid (fun (w' : World) (hg : w.grownBy w' none) => hr.kept0 hg hB)
    have HR' := Lib.hid (fun (w' : World) (hg : w.grownBy w' none) => hr'.kept0 hg hB)
    have HK := Lib.hid hk
    have HBAD := Lib.hid (fun (k : Nat) (h1 : k < ss.length) (h2 : slotB bs ss k = false) => sp_bad h1 h2)
    have HGOOD := Lib.hid (fun (h : ∀ k, k < ss.length → slotB bs ss k = true) => sp_all hs h)
    have hl7 := hk.len
    have hl1 := hk.pos
    obtain ⟨i0, hi0, hz0, hz1, hz2⟩ := info_parts info64
    clear hr hr' hk hl
    go_enter Try.func80, Try.ntmps80
    go_wp2_with (at_make; refine wpList_make_full _ rfl _ _ _ rfl w.heap.size 2 i0 (.int .i64 0) 1 Try.underlying50 hi0 hz0 hz1 _ _ _ _ bs.length rfl rfl rfl rfl (by rw [hz2]; omega) (by unfold maxLen; omega) (Nat.le_refl _) ?_; intro w1 hown hg1)
    rw [Nat.mul_one] at hown
    have HO1 := Lib.hid (show w1.ownsRow w.heap.size 2 1 (.slice (some ⟨w.heap.size, 0, none⟩) bs.length bs.length) bs.length (lst (cn ss 0) bs.length) by
      rw [← cn_zero, ← replicate_lst]
      exact (toList_madeCells_one (.int .i64 0) bs.length) ▸ hown)
    have HG1 := Lib.hid hg1
    clear hown hg1 hi0 hz0 hz1 hz2
    go_loopw [17] (fun i wr => ∃ k : Nat, k ≤ ss.length ∧ i = .int .i64 k ∧ (∀ i, i < k → slotB bs ss i = true) ∧ wr.ownsRow w.heap.size 2 1 (.slice (some ⟨w.heap.size, 0, none⟩) bs.length bs.length) bs.length (lst (cn ss k) bs.length) ∧ w.grownBy wr none) (fun i _ => ss.length - (intOf i).toNat)
    case atStart => exact ⟨0, Nat.zero_le _, rfl, fun _ h => absurd h (by omega), HO1.out, HG1.out⟩
    case round =>
      obtain ⟨k, hkn, rfl, hpre, hown, hg⟩ := hrel
      by_cases hlt : k < ss.length
      · obtain ⟨ad', x, y, rfl, _, hxy, hs0, hs1⟩ := Rd.slot (HR'.out wr hg) hlt
        have hga := World.grownBy_alloc wr (.cells #[.int .i64 x, .int .i64 y] 101) none
        obtain ⟨p1, p2⟩ := boxed2 (World.grownBy.refl (wr.alloc (.cells #[.int .i64 x, .int .i64 y] 101)) none)
        have HGA := Lib.hid (hg.trans hga)
        have HX := Lib.hid hxy
        have HPR := Lib.hid hpre
        have HOA := Lib.hid (own_kept0 hown hga)
        have hb0 := (own_base hown w.heap.size rfl).2
        have w0 : IntKind.i64.wrap ((bs.length : Int) - 1) = (bs.length : Int) - 1 := by rw [IntKind.wrap_i64]; omega
        clear hpre hxy hown hg
        by_cases hj : 0 ≤ x ∧ x ≤ (bs.length : Int) - 1
        · obtain ⟨j, rfl⟩ : ∃ j : Nat, x = (j : Int) := ⟨x.toNat, by omega⟩
          have hjl : j < bs.length := by omega
          obtain ⟨ad, u, v, d, s, rfl, _, hx, e0, e1, _, hc3⟩ := Rd.four (HR.out _ HGA.out) hjl
          have hn := HK.out.num j hjl
          rw [show bg bs j = _ from hx] at hn
          replace hn : 1 ≤ d ∧ d ≤ 10000 ∧ d ≤ s ∧ s ≤ 10000 := hn
          have hev : ev bs j = s := by unfold ev; rw [show bg bs j = _ from hx]
          have hbd := HK.out.bd j hjl
          rw [show bg bs j = _ from hx] at hbd
          replace hbd : Bd u v := hbd
          have hdir : (bg bs j).1 = u ∧ (bg bs j).2.1 = v := by rw [show bg bs j = _ from hx]; exact ⟨rfl, rfl⟩
          obtain ⟨c0, c1⟩ := cnt_bd bs ss k j (by omega) (by omega) (by omega)
          have h2 : two bs ss k = decide (cnt ss j k * ev bs j ≤ y) := by unfold two; rw [HX.out]; rfl
          rw [hev] at c0 c1 h2
          have l0 := HOA.out.cellAt j (by omega)
          rw [lst_get _ _ _ hjl] at l0
          unfold cn at l0
          have lf := HOA.out.frozenAt j
          have hcl := cnt_le ss j k
          have hset := cn_set ss k j bs.length (by rw [HX.out]) hjl
          have HSET := Lib.hid hset
          generalize hC : cnt ss j k = C at *
          have HC := Lib.hid hC
          have j0 : (0 : Int) ≤ (j : Int) := by omega
          have j1 : (j : Int) < (bs.length : Int) := by omega
          have j2 : (j : Int) ≤ (bs.length : Int) - 1 := by omega
          have h1 : one bs (sg ss k) = decide (0 ≤ y ∧ y ≤ 100000) := by
            rw [HX.out]
            unfold one
            by_cases h : 0 ≤ y ∧ y ≤ 100000
            · rw [decide_eq_true h]
              exact decide_eq_true ⟨by omega, j2, h.1, h.2⟩
            · rw [decide_eq_false h]
              exact decide_eq_false (fun z => h z.2.2)
          generalize hN : (C : Int) * s = N at *
          have w1 : IntKind.i64.wrap N = N := by rw [IntKind.wrap_i64]; omega
          clear hx hev hset hC
          by_cases hy : N ≤ y ∧ y ≤ 100000
          · have I2 := Lib.hid (fun (w : World) (q : Nat) => Calls.quiet_of_same ((in_yes y N 100000 (w.drewN q) hy.1 hy.2).mono (by rintro e w' ⟨rfl, rfl⟩; exact ⟨rfl, rfl⟩)))
            have h1t : one bs (sg ss k) = true := by rw [h1]; exact decide_eq_true ⟨by omega, hy.2⟩
            have h2t : two bs ss k = true := by rw [h2]; exact decide_eq_true hy.1
            have HH := Lib.hid (And.intro h1t h2t)
            obtain ⟨y1, y2⟩ := hy
            clear h1 h2 h1t h2t
            by_cases hk0 : k = 0
            · have HU := Lib.hid (fun i (hi : i < k + 1) => show slotB bs ss i = true by
                have e0 : i = k := by omega
                subst e0
                exact slot_mk HH.out.1 HH.out.2 (by unfold three; exact decide_eq_true (.inl hk0)))
              have z3 : ¬ (0 : Int) < (k : Int) := by omega
              have z4 : ¬ 0 < k := by omega
              have z1 : decide ((0 : Int) < (k : Int)) = false := decide_eq_false z3
              have z2 : decide (0 < k) = false := decide_eq_false z4
              clear hk0
              go_wp2_with fail
              go_quiet ((go_at_call 71; exact q_yes _ _ _ _ _ (by first | assumption | omega) (by first | assumption | omega)))
              go_wp2_with fail
              have gq := gb_drewN (wr.alloc (.cells #[.int .i64 j, .int .i64 y] 101)) nq none
              obtain ⟨P, Q⟩ := (own_kept0 HOA.out gq).stored j (.int .i64 ((C : Int) + 1))
              rw [HSET.out] at P
              exact ⟨⟨k + 1, by omega, by go_num, HU.out, P, gb_new (HGA.out.trans gq) Q (by intro g e; injection e with e; omega)⟩, by simp [intOf]; omega⟩
            · obtain ⟨q, hq⟩ : ∃ q : Nat, k = q + 1 := ⟨k - 1, by omega⟩
              have hqk : (k : Int) - 1 = (q : Int) := by omega
              have hql : q < ss.length := by omega
              obtain ⟨ad2, x', y', e2, _, hxy', ht0, ht1⟩ := Rd.slot (HR'.out _ HGA.out) hql
              obtain rfl : ad' = ad2 := by injection e2
              obtain ⟨j', t', e, hj', ht'⟩ := one_yes (slot_yes (HPR.out q (by omega))).1
              rw [hxy'] at e
              obtain ⟨rfl, rfl⟩ : x' = (j' : Int) ∧ y' = (t' : Int) := by injection e with a b; exact ⟨a, b⟩
              obtain ⟨ad3, u2, v2, d2, s2, e3, _, hx3, f0, f1, f2, _⟩ := Rd.four (HR.out _ HGA.out) hj'
              obtain rfl : ad = ad3 := by injection e3
              have hn2 := HK.out.num j' hj'
              rw [show bg bs j' = _ from hx3] at hn2
              replace hn2 : 1 ≤ d2 ∧ d2 ≤ 10000 ∧ d2 ≤ s2 ∧ s2 ≤ 10000 := hn2
              have hbd2 := HK.out.bd j' hj'
              rw [show bg bs j' = _ from hx3] at hbd2
              replace hbd2 : Bd u2 v2 := hbd2
              have h3 : three bs ss k = decide ((t' : Int) + d2 + sw u2 v2 u v ≤ y) := by
                unfold three
                rw [show k - 1 = q by omega, HX.out, hxy']
                show decide (k = 0 ∨ (t' : Int) + dw bs (j' : Int).toNat + tu bs (j' : Int).toNat (j : Int).toNat ≤ y) = _
                rw [Int.toNat_natCast, Int.toNat_natCast]
                unfold dw tu
                rw [hdir.1, hdir.2, show bg bs j' = _ from hx3]
                congr 1
                simp [hk0]
              obtain ⟨b1, b2⟩ := sw_bd hbd2 hbd
              have HSW := Lib.hid (fun w => sw_spec u2 v2 u v w hbd2 hbd)
              generalize sw u2 v2 u v = TU at *
              have z3 : (0 : Int) < (k : Int) := by omega
              have z4 : 0 < k := by omega
              have z1 : decide ((0 : Int) < (k : Int)) = true := decide_eq_true z3
              have z2 : decide (0 < k) = true := decide_eq_true z4
              have q0 : (0 : Int) ≤ (q : Int) := by omega
              have q1 : (q : Int) < (ss.length : Int) := by omega
              have q2 : IntKind.i64.wrap ((k : Int) - 1) = (q : Int) := by rw [IntKind.wrap_i64]; omega
              have i0 : (0 : Int) ≤ (j' : Int) := by omega
              have i1 : (j' : Int) < (bs.length : Int) := by omega
              have q5 : IntKind.i64.wrap ((t' : Int) + d2) = (t' : Int) + d2 := by rw [IntKind.wrap_i64]; omega
              have q7 : IntKind.i64.wrap ((t' : Int) + d2 + TU) = (t' : Int) + d2 + TU := by rw [IntKind.wrap_i64]; omega
              have HX' := Lib.hid hxy'
              have HQ := Lib.hid hq
              clear hdir e hxy' e2 e3 hx3 hq hk0 hbd hbd2
              go_wp2_with fail
              go_quiet ((go_at_call 71; exact q_yes _ _ _ _ _ (by first | assumption | omega) (by first | assumption | omega)))
              go_wp2_with fail
              have gy := World.grownBy.trans (gb_drewN (wr.alloc (.cells #[.int .i64 j, .int .i64 y] 101)) nq none) (World.grownBy_alloc ((wr.alloc (.cells #[.int .i64 j, .int .i64 y] 101)).drewN nq) (.cells #[.int .i64 j', .int .i64 t'] 101) none)
              obtain ⟨p3, p4⟩ := boxed2 (World.grownBy.refl (((wr.alloc (.cells #[.int .i64 j, .int .i64 y] 101)).drewN nq).alloc (.cells #[.int .i64 j', .int .i64 t'] 101)) none)
              rw [show ((wr.alloc (.cells #[.int .i64 j, .int .i64 y] 101)).drewN nq).heap.size = wr.heap.size + 1 by simp] at p3 p4
              have r1 := gy.cell p1 (by simp)
              have r2 := gy.cell p2 (by simp)
              have r5 := gy.cell e0 (by simp)
              have r6 := gy.cell e1 (by simp)
              have r7 := gy.cell f0 (by simp)
              have r8 := gy.cell f1 (by simp)
              have r9 := gy.cell f2 (by simp)
              clear p1 p2 e0 e1 f0 f1 f2 hs0 hs1 ht0 ht1 l0 lf hc3 w0
              generalize hwy : ((wr.alloc (.cells #[.int .i64 j, .int .i64 y] 101)).drewN nq).alloc (.cells #[.int .i64 j', .int .i64 t'] 101) = wy at *
              generalize hwx : (wr.alloc (.cells #[.int .i64 j, .int .i64 y] 101)) = wx at *
              generalize hgx : wr.heap.size = gx at *
              clear hwy hwx
              go_region_held3 (fun w' => w'.cell? ⟨gx, 0, none⟩ = some (.int .i64 j) ∧ w'.cell? ⟨gx, 1, none⟩ = some (.int .i64 y) ∧ w'.cell? ⟨gx + 1, 0, none⟩ = some (.int .i64 j') ∧ w'.cell? ⟨gx + 1, 1, none⟩ = some (.int .i64 t') ∧ w'.cell? (ad.add (j * 4)) = some (.int .i64 u) ∧ w'.cell? ⟨(ad.add (j * 4)).block, (ad.add (j * 4)).off + 1, none⟩ = some (.int .i64 v) ∧ w'.cell? (ad.add (j' * 4)) = some (.int .i64 u2) ∧ w'.cell? ⟨(ad.add (j' * 4)).block, (ad.add (j' * 4)).off + 1, none⟩ = some (.int .i64 v2) ∧ w'.cell? ⟨(ad.add (j' * 4)).block, (ad.add (j' * 4)).off + 2, none⟩ = some (.int .i64 d2) ∧ wx.grownBy w' none)
                (first
                  | (go_split_ands
                     exact ⟨hg.cell (by assumption) (by simp), hg.cell (by assumption) (by simp), hg.cell (by assumption) (by simp), hg.cell (by assumption) (by simp), hg.cell (by assumption) (by simp), hg.cell (by assumption) (by simp), hg.cell (by assumption) (by simp), hg.cell (by assumption) (by simp), hg.cell (by assumption) (by simp), World.grownBy.trans (by assumption) hg⟩)
                  | exact ⟨r1, r2, p3, p4, r5, r6, r7, r8, r9, ⟨gy.os, gy.tape, gy.output, gy.size, gy.block⟩⟩)
                ((go_at_call 66; refine (HSW.out _).mono ?_; rintro e w6 ⟨rfl, hg⟩; have gT : wx.grownBy w6 none := (by refine World.grownBy.trans ?_ hg; exact ⟨gy.os, gy.tape, gy.output, gy.size, gy.block⟩)))
              have HOT := Lib.hid (own_kept0 HOA.out gT)
              have HGT := Lib.hid (HGA.out.trans gT)
              have gx0 := gT.cell (show wx.cell? ⟨w.heap.size, j, none⟩ = _ from by have := HOA.out.cellAt j (by omega); rw [lst_get _ _ _ hjl] at this; unfold cn at this; rw [HC.out] at this; exact this) (by simp)
              have gx1 := HOT.out.frozenAt j
              have gxb : w6.cell? ⟨gx, 0, none⟩ = some (.int .i64 j) := by
                have h : (w6.cell? ⟨gx, 0, none⟩ = some (.int .i64 j) ∧ w6.cell? ⟨gx, 1, none⟩ = some (.int .i64 y) ∧ w6.cell? ⟨gx + 1, 0, none⟩ = some (.int .i64 j') ∧ w6.cell? ⟨gx + 1, 1, none⟩ = some (.int .i64 t') ∧ w6.cell? (ad.add (j * 4)) = some (.int .i64 u) ∧ w6.cell? ⟨(ad.add (j * 4)).block, (ad.add (j * 4)).off + 1, none⟩ = some (.int .i64 v) ∧ w6.cell? (ad.add (j' * 4)) = some (.int .i64 u2) ∧ w6.cell? ⟨(ad.add (j' * 4)).block, (ad.add (j' * 4)).off + 1, none⟩ = some (.int .i64 v2) ∧ w6.cell? ⟨(ad.add (j' * 4)).block, (ad.add (j' * 4)).off + 2, none⟩ = some (.int .i64 d2) ∧ wx.grownBy w6 none) := by assumption
                exact h.1
              by_cases hlt3 : y < (t' : Int) + d2 + TU
              · have HV := Lib.hid (HBAD.out k hlt (three_bad (by rw [h3]; exact decide_eq_false (by omega))))
                clear h3 gT
                go_wp2_with fail
                go_ret
                exact ⟨ret_bool HV.out.symm, HGT.out⟩
              · have HS3 := Lib.hid (show slotB bs ss k = true from slot_mk HH.out.1 HH.out.2 (by rw [h3]; exact decide_eq_true (by omega)))
                have HU := Lib.hid (fun i (hi : i < k + 1) => show slotB bs ss i = true by
                  by_cases e : i = k
                  · subst e; exact HS3.out
                  · exact HPR.out i (by omega))
                clear h3 gT
                go_wp2_with fail
                obtain ⟨P, Q⟩ := HOT.out.stored j (.int .i64 ((C : Int) + 1))
                rw [HSET.out] at P
                exact ⟨⟨k + 1, by omega, by go_num, HU.out, P, gb_new HGT.out Q (by intro g e; injection e with e; omega)⟩, by simp [intOf]; omega⟩
          · have HV := Lib.hid (HBAD.out k hlt (by
              by_cases h : 0 ≤ y ∧ y ≤ 100000
              · exact two_bad (by rw [h2]; exact decide_eq_false (by omega))
              · exact one_bad (by rw [h1]; exact decide_eq_false h)))
            have HN := Lib.hid (show y < N ∨ 100000 < y by omega)
            clear h1 h2 hy
            go_wp2_with fail
            go_quiet (first
              | (go_at_call 71; exact q_yes _ _ _ _ _ (by first | assumption | omega) (by first | assumption | omega))
              | (go_at_call 71; exact q_no _ _ _ _ _ HN.out))
            go_wp2_with fail
            go_ret
            exact ⟨ret_bool HV.out.symm, HGA.out.trans (gb_drewN _ _ _)⟩
        · have HV := Lib.hid (HBAD.out k hlt (one_bad (by rw [HX.out]; exact one_no (fun h => hj ⟨h.1, h.2.1⟩))))
          have I1 := Lib.hid (fun (w : World) (q : Nat) => Calls.quiet_of_same ((in_no x 0 ((bs.length : Int) - 1) (w.drewN q) (by omega)).mono (by rintro e w' ⟨rfl, rfl⟩; exact ⟨rfl, rfl⟩)))
          clear hj
          go_wp2_with fail
          go_quiet ((go_at_call 71; exact I1.out _ _))
          go_wp2_with fail
          go_ret
          exact ⟨ret_bool HV.out.symm, HGA.out.trans (gb_drewN _ _ _)⟩
      · obtain rfl : k = ss.length := by omega
        have HV := Lib.hid (HGOOD.out hpre)
        have HG := Lib.hid hg
        clear hpre hg hown
        go_wp2_with fail
        go_ret
        exact ⟨ret_bool HV.out.symm, HG.out⟩

end Go.Proofs.Ytkjmlpdbnnmlhaa.planSpec
