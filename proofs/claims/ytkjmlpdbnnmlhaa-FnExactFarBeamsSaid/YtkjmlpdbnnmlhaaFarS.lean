/- Groups of beams, by the model. -/
import Derived.Test.YtkjmlpdbnnmlhaaRows
import Derived.Test.YtkjmlpdbnnmlhaaSlc
import Derived.Test.YtkjmlpdbnnmlhaaSmall
import Derived.Test.YtkjmlpdbnnmlhaaOpens
import Derived.Test.YtkjmlpdbnnmlhaaListI
import Derived.Test.YtkjmlpdbnnmlhaaNestI
import Derived.Test.YtkjmlpdbnnmlhaaBeams
import Derived.Test.YtkjmlpdbnnmlhaaListBeam
import Derived.Test.YtkjmlpdbnnmlhaaPlanNum
import Derived.Test.YtkjmlpdbnnmlhaaSwT
import Derived.Test.YtkjmlpdbnnmlhaaBeamsOk
import Derived.Test.YtkjmlpdbnnmlhaaPlanDue
import Derived.Test.YtkjmlpdbnnmlhaaFarF
import Derived.Test.YtkjmlpdbnnmlhaaNestG
import Derived.Test.YtkjmlpdbnnmlhaaFarC
import Derived.WalkKit
import Derived.ProofKit
import Derived.OpenShut
import Derived.ShutString
import Derived.ChangeOld
import Derived.Below
import Derived.Lib.Hide
import Derived.BigQuiet
import Derived.Deep.QuietTactic
import Derived.WalkLawsBesides
import Derived.Outline
import Derived.Deep.QuietTactic
import Derived.BigQuiet
import Derived.Deep.LoopGhost
import Derived.Deep.RegionWith
import Derived.Deep.RegionHeld3
import Derived.Deep.OwnRows
namespace Go.Proofs.Ytkjmlpdbnnmlhaa.farS
open Go.ChangeShapes Go.WideShapes Go.ChangeAt Go.RowKit
open Go.ChangeMaps (open_string shut_string)
set_option linter.unusedVariables false
open Go Go.RowKit
open Go.Proofs.Ytkjmlpdbnnmlhaa.slc Go.Proofs.Ytkjmlpdbnnmlhaa.small Go.Proofs.Ytkjmlpdbnnmlhaa.opens Go.Proofs.Ytkjmlpdbnnmlhaa.listI Go.Proofs.Ytkjmlpdbnnmlhaa.nestI Go.Proofs.Ytkjmlpdbnnmlhaa.beams Go.Proofs.Ytkjmlpdbnnmlhaa.listBeam Go.Proofs.Ytkjmlpdbnnmlhaa.planNum Go.Proofs.Ytkjmlpdbnnmlhaa.swT Go.Proofs.Ytkjmlpdbnnmlhaa.beamsOk Go.Proofs.Ytkjmlpdbnnmlhaa.planDue Go.Proofs.Ytkjmlpdbnnmlhaa.farF Go.Proofs.Ytkjmlpdbnnmlhaa.nestG Go.Proofs.Ytkjmlpdbnnmlhaa.farC

/-- No one of a group's first q is near. -/
def al (bs : List Bm) (ap : Int) (g : List Nat) (k : Nat) : Nat → Bool
  | 0 => true
  | q + 1 => al bs ap g k q && !nearB bs ap (g.getD q 0) k
theorem al_take (bs : List Bm) (ap : Int) (g : List Nat) (k : Nat) : ∀ q, q ≤ g.length → al bs ap g k q = (g.take q).all fun x => !nearB bs ap x k
  | 0, _ => rfl
  | q + 1, h => by
    have e : g.getD q 0 = g[q] := by simp [List.getD, show q < g.length by omega]
    rw [List.take_succ_eq_append_getElem (by omega), List.all_append, ← al_take bs ap g k q (by omega)]
    show (al bs ap g k q && !nearB bs ap (g.getD q 0) k) = _
    rw [e]
    simp
theorem al_fit (bs : List Bm) (ap : Int) (g : List Nat) (k : Nat) : al bs ap g k g.length = fitB bs ap g k := by
  rw [al_take _ _ _ _ _ (Nat.le_refl _), List.take_length]
  rfl

section
attribute [local go_sem ↓] app_stop
attribute [local go_sem] run_store_func run_store_slice
set_option maxHeartbeats 3200000 in
set_option maxRecDepth 100000 in
theorem far_spec (A : Option Addr) (c B : Nat) (bs : List Bm) (ap : Int) (w : World) (hm : bs.length ≤ 9223372036854775807) (hr : Rd w B A (bs.length * 4) (bcell bs)) (hB : B ≤ w.heap.size) :
    Calls Try.prog 53 #[.slice A bs.length c, .int .i64 ap] w fun e w' => ∃ O d V, e = .returned (.tuple #[.slice O (FG bs ap).length d, .bool (fok bs ap)]) ∧ GS w' w.heap.size (.slice O (FG bs ap).length d) (FG bs ap) V ∧ w.grownBy w' none := by
  have HA0 := are_spec A c B bs w hm hr hB
  cases ha : ab bs
  · rw [(fok_ab ha).1, (fok_ab ha).2]
    rw [ha] at HA0
    have HA := Lib.hid HA0
    clear HA0 hr ha
    go_enter Try.func53, Try.ntmps53
    go_wp2_with fail
    refine HA.out.mono ?_
    rintro e w1 ⟨rfl, g1⟩
    go_wp2_with fail
    go_ret2
    exact ⟨none, 0, [], rfl, gs_nil _ _, g1⟩
  · rw [ha] at HA0
    have HA := Lib.hid HA0
    by_cases hap : 0 ≤ ap ∧ ap ≤ 128
    · rw [(fok_yes ha hap).1, (fok_yes ha hap).2]
      have HK := Lib.hid (BsOk.of ha)
      have HR := Lib.hid (fun (w' : World) (hg : w.grownBy w' none) => hr.kept0 hg hB)
      have HGI := Lib.hid (fun k (h : k ≤ bs.length) => GI.all (ap := ap) k h)
      have hl7 := (BsOk.of ha).len
      obtain ⟨a0, a1⟩ := hap
      clear HA0 hr ha
      go_enter Try.func53, Try.ntmps53
      go_wp2_with fail
      refine HA.out.mono ?_
      rintro e w1 ⟨rfl, g1⟩
      have HG1 := Lib.hid g1
      clear g1
      go_wp2_with fail
      refine (in_yes _ _ _ _ a0 a1).mono ?_
      rintro e w' ⟨rfl, hw⟩
      subst hw
      go_wp2_with fail
      have HST0 := Lib.hid (World.ownsRow_lit (base := w1.heap.size) (e := 50) (size := 1) w1 #[] 0 (Nat.le_refl _) (Nat.zero_le _) rfl)
      go_loopw [6, 25] (fun v i wr => ∃ k : Nat, k ≤ bs.length ∧ i = .int .i64 k ∧ (∃ O d V, v = .slice O (grp bs ap k).length d ∧ GS wr w1.heap.size (.slice O (grp bs ap k).length d) (grp bs ap k) V) ∧ w1.grownBy wr none) (fun _ i _ => bs.length - (intOf i).toNat)
      case atStart => exact ⟨0, Nat.zero_le _, rfl, ⟨_, _, [], rfl, GS.start HST0.out⟩, World.grownBy_alloc _ _ _⟩
      case round =>
        obtain ⟨k, hkn, rfl, ⟨O, d0, V, rfl, hGS⟩, hg⟩ := hrel
        by_cases hlt : k < bs.length
        · have hgi := HGI.out k (by omega)
          have HGS := Lib.hid hGS
          have HG := Lib.hid hg
          have HGI2 := Lib.hid hgi
          have hlenk := hgi.len
          clear hGS hg hgi
          go_wp2_with fail
          obtain ⟨wo, rfl⟩ : ∃ wo : World, wo = wr := ⟨_, rfl⟩
          go_loopw [8, 30] (fun at_ i wi => ∃ m : Nat, m ≤ (grp bs ap k).length ∧ i = .int .i64 m ∧ at_ = .int .i64 (-1) ∧ (∀ i (hi : i < m) (hm : m ≤ (grp bs ap k).length), fitB bs ap ((grp bs ap k)[i]'(by omega)) k = false) ∧ wo.grownBy wi none) (fun _ i _ => (grp bs ap k).length - (intOf i).toNat)
          case atStart => exact ⟨0, Nat.zero_le _, rfl, rfl, fun i hi _ => absurd hi (by omega), World.grownBy.refl _ _⟩
          case round =>
            obtain ⟨m, hmn, rfl, rfl, hpre, hgi⟩ := hrel
            have hsz : w1.heap.size ≤ wr.heap.size := (HG.out.trans hgi).size
            by_cases hlm : m < (grp bs ap k).length
            · have hGS2 := HGS.out.kept0 hgi
              obtain ⟨od, rfl, _, hoc⟩ := (gs_rd hGS2).outer.at_ hlm
              have hrow := (gs_rd hGS2).rows m hlm
              obtain ⟨r1, r2, r3⟩ := HGI2.out.row m hlm
              have HROW := Lib.hid hrow
              have HG2S := Lib.hid hGS2
              have HPR := Lib.hid hpre
              have HGI3 := Lib.hid hgi
              have HR1 := Lib.hid r1
              have HGM := Lib.hid (show (grp bs ap k).getD m [] = (grp bs ap k)[m] by simp [List.getD, hlm])
              clear hGS2 hrow hpre hgi r1
              generalize (grp bs ap k).getD m [] = row at *
              generalize aA V m = aw at *
              generalize cA V m = cw at *
              go_wp2_with fail
              obtain ⟨wp, rfl⟩ : ∃ wp : World, wp = wr := ⟨_, rfl⟩
              go_loopw [10, 38] (fun fine i wi => ∃ q : Nat, q ≤ row.length ∧ i = .int .i64 q ∧ fine = .bool (al bs ap row k q) ∧ wp.grownBy wi none) (fun _ i _ => row.length - (intOf i).toNat)
              case atStart => exact ⟨0, Nat.zero_le _, rfl, rfl, World.grownBy.refl _ _⟩
              case round =>
                obtain ⟨q, hqn, rfl, rfl, hgq⟩ := hrel
                by_cases hlq : q < row.length
                · have hrq := (HROW.out.kept0 hgq (Nat.le_refl _)).at_ hlq
                  obtain ⟨rd, hrd, _, hrc⟩ := hrq
                  rw [gz_at row hlq] at hrc
                  subst hrd
                  have hxl := HR1.out q hlq
                  have hgr := row.getD q 0
                  have hgq0 : row.getD q 0 = row[q] := by simp [List.getD, hlq]
                  obtain ⟨ad, u, v, d, s, rfl, _, hx, b0, b1, _, _⟩ := Rd.four (HR.out wr ((HG1.out.trans HG.out).trans (HGI3.out.trans hgq))) hlt
                  obtain ⟨ad2, u2, v2, d2, s2, e2, _, hx2, f0, f1, _, _⟩ := Rd.four (HR.out wr ((HG1.out.trans HG.out).trans (HGI3.out.trans hgq))) hxl
                  obtain rfl : ad = ad2 := by injection e2
                  have hb1 := HK.out.bd k hlt
                  have hb2 := HK.out.bd row[q] hxl
                  rw [show bg bs k = _ from hx] at hb1
                  rw [show bg bs row[q] = _ from hx2] at hb2
                  replace hb1 : Bd u v := hb1
                  replace hb2 : Bd u2 v2 := hb2
                  have hnear : nearB bs ap row[q] k = decide (df u v u2 v2 < ap) := by
                    unfold nearB
                    rw [show bg bs k = _ from hx, show bg bs row[q] = _ from hx2]
                    show decide (df u2 v2 u v < ap) = _
                    rw [show df u2 v2 u v = df u v u2 v2 by unfold df; omega]
                  have hal : al bs ap row k (q + 1) = (al bs ap row k q && !decide (df u v u2 v2 < ap)) := by
                    show (al bs ap row k q && !nearB bs ap (row.getD q 0) k) = _
                    rw [hgq0, hnear]
                  obtain ⟨d0', d1'⟩ := df_bd hb1 hb2
                  have hoc2 := (hgq.cell hoc (by simp))
                  have gA := World.grownBy_alloc wr (.cells #[.int .i64 u, .int .i64 v] 33) none
                  have gB := World.grownBy_alloc (wr.alloc (.cells #[.int .i64 u, .int .i64 v] 33)) (.cells #[.int .i64 u2, .int .i64 v2] 33) none
                  obtain ⟨p0, p1, p2, p3⟩ := boxed4 (World.grownBy.refl ((wr.alloc (.cells #[.int .i64 u, .int .i64 v] 33)).alloc (.cells #[.int .i64 u2, .int .i64 v2] 33)) none)
                  have y0 := gA.cell hoc2 (by simp)
                  have y1 := gA.cell hrc (by simp)
                  have y2 := gA.cell f0 (by simp)
                  have y3 := gA.cell f1 (by simp)
                  have HQ := Lib.hid (hgq.trans (gA.trans gB))
                  have x0 : (0 : Int) ≤ ((row[q] : Nat) : Int) := by omega
                  have x1 : ((row[q] : Nat) : Int) < (bs.length : Int) := by omega
                  have k0 : (0 : Int) ≤ (k : Int) := by omega
                  have k1 : (k : Int) < (bs.length : Int) := by omega
                  have q0 : (0 : Int) ≤ (q : Int) := by omega
                  have q1 : (q : Int) < (row.length : Int) := by omega
                  have m0 : (0 : Int) ≤ (m : Int) := by omega
                  have m1 : (m : Int) < ((grp bs ap k).length : Int) := by omega
                  obtain ⟨z1, z2, z3, z4⟩ := hb1
                  obtain ⟨z5, z6, z7, z8⟩ := hb2
                  have H1 := Lib.hid (fun (w : World) (q : Nat) => Calls.quiet_of_same ((abs_c (u - u2) (w.drewN q) (by omega) (by omega)).mono (by rintro e w' ⟨rfl, rfl⟩; exact ⟨rfl, rfl⟩)))
                  have H2 := Lib.hid (fun (w : World) (q : Nat) => Calls.quiet_of_same ((abs_c (v - v2) (w.drewN q) (by omega) (by omega)).mono (by rintro e w' ⟨rfl, rfl⟩; exact ⟨rfl, rfl⟩)))
                  have H3 := fun (w : World) (q : Nat) => Calls.quiet_of_same ((max_c (max (u - u2) (-(u - u2))) (max (v - v2) (-(v - v2))) (w.drewN q)).mono (by rintro e w' ⟨rfl, rfl⟩; exact ⟨rfl, rfl⟩))
                  rw [show max (max (u - u2) (-(u - u2))) (max (v - v2) (-(v - v2))) = df u v u2 v2 by unfold df; omega] at H3
                  have w1 : IntKind.i64.wrap (u - u2) = u - u2 := by rw [IntKind.wrap_i64]; omega
                  have w2 : IntKind.i64.wrap (v - v2) = v - v2 := by rw [IntKind.wrap_i64]; omega
                  generalize df u v u2 v2 = D at *
                  generalize hP : max (u - u2) (-(u - u2)) = P at H1 H3
                  generalize hQQ : max (v - v2) (-(v - v2)) = Q at H2 H3
                  have H4 := Lib.hid H3
                  have HAL := Lib.hid hal
                  clear hP hQQ H3 hal hnear hx hx2 e2 gA gB hgq hgq0 hgr hxl
                  generalize row[q] = xx at *
                  cases hf : al bs ap row k q
                  · rw [hf] at HAL
                    have HA2 := Lib.hid (show al bs ap row k (q + 1) = false from HAL.out)
                    clear hf HAL
                    go_wp2_with fail
                    go_quiet (fail)
                    go_wp2_with fail
                    go_roundw
                    case rel => exact ⟨q + 1, by omega, by go_num, by rw [HA2.out], HQ.out.trans (gb_drewN _ _ _)⟩
                    case measure => simp [intOf]; omega
                  · rw [hf] at HAL
                    have HA2 := Lib.hid (show al bs ap row k (q + 1) = decide (ap ≤ D) by
                      rw [HAL.out]
                      by_cases h : D < ap
                      · rw [decide_eq_true h, decide_eq_false (by omega)]; rfl
                      · rw [decide_eq_false h, decide_eq_true (by omega)]; rfl)
                    clear hf HAL
                    go_wp2_with fail
                    go_quiet (first
                      | (go_at_call 96; exact H1.out _ _)
                      | (go_at_call 96; exact H2.out _ _)
                      | (go_at_call 84; exact H4.out _ _))
                    go_wp2_with fail
                    go_roundw
                    case rel => exact ⟨q + 1, by omega, by go_num, by rw [HA2.out], HQ.out.trans (gb_drewN _ _ _)⟩
                    case measure => simp [intOf]; omega
                · obtain rfl : q = row.length := by omega
                  have hfit := al_fit bs ap row k
                  have HPQ := Lib.hid hgq
                  cases hf : fitB bs ap row k
                  · rw [hf] at hfit
                    rw [hfit]
                    have HPR2 := Lib.hid (fun i (hi : i < m + 1) (hm : m + 1 ≤ (grp bs ap k).length) => show fitB bs ap ((grp bs ap k)[i]'(by omega)) k = false by
                      by_cases e : i = m
                      · subst e; rw [← HGM.out]; exact hf
                      · exact HPR.out i (by omega) (by omega))
                    have HGZ := Lib.hid (HGI3.out.trans hgq)
                    clear hf hfit hgq
                    go_wp2_with fail
                    go_roundw
                    case rel => exact ⟨m + 1, by omega, by go_num, rfl, HPR2.out, HGZ.out⟩
                    case measure => simp [intOf]; omega
                  · rw [hf] at hfit
                    rw [hfit]
                    have hixm : ix bs ap (grp bs ap k) k = m := by
                      unfold ix
                      exact find_step (fun g => fitB bs ap g k) (grp bs ap k) m hlm (fun i hi => HPR.out i hi (by omega)) (by show fitB bs ap (grp bs ap k)[m] k = true; rw [← HGM.out]; exact hf)
                    have HST := Lib.hid (show grp bs ap (k + 1) = (grp bs ap k).set m (row ++ [k]) by
                      show stp bs ap (grp bs ap k) k = _
                      unfold stp
                      rw [hixm, if_pos hlm, show (grp bs ap k).getD m [] = row by rw [HGM.out]; simp [List.getD, hlm]])
                    have hGW := HG2S.out.kept0 hgq
                    have hsz2 : w1.heap.size ≤ wr.heap.size := Nat.le_trans hsz hgq.size
                    obtain ⟨gv, cap, hv, _, _⟩ := hGW.outer.form (by omega)
                    obtain ⟨rfl, rfl⟩ : od = ⟨gv, 0, none⟩ ∧ d0 = cap := by injection hv with a b c; exact ⟨Option.some.inj a, c⟩
                    have hrow : (grp bs ap k).getD m [] = row := by rw [HGM.out]; simp [List.getD, hlm]
                    obtain ⟨A5, c5, A6, c6, w6, hV, hrun, y1, y2, y3, hS, hK⟩ := GS.grow (x := k) hGW hlm hsz2 (by rw [hrow]; omega)
                    rw [hrow] at hV hrun y1 y2 hS hK
                    have HKK := Lib.hid (And.intro hS (hK w1 (Nat.le_refl _) (HG.out.trans (HGI3.out.trans hgq))))
                    have hlen : (grp bs ap (k + 1)).length = (grp bs ap k).length := by rw [HST.out, List.length_set]
                    have HLEN := Lib.hid hlen
                    have m0 : (0 : Int) ≤ (m : Int) := by omega
                    have m1 : (m : Int) < ((grp bs ap k).length : Int) := by omega
                    have m2 : ¬ (m : Int) < 0 := by omega
                    clear hS hK hV hv hf hfit hixm hGW hrow hlen hgq
                    go_wp2_with fail
                    refine ⟨⟨k + 1, by omega, by go_num, ⟨some ⟨gv, 0, none⟩, d0, V.set m (Value.slice A6 (row.length + 1) c6), by rw [HLEN.out], ?_⟩, HKK.out.2⟩, by simp [intOf]; omega⟩
                    rw [HLEN.out, HST.out]
                    exact HKK.out.1
            · obtain rfl : m = (grp bs ap k).length := by omega
              have hixm : ¬ ix bs ap (grp bs ap k) k < (grp bs ap k).length := by
                unfold ix
                rw [find_none _ _ (fun i hi => hpre i hi (Nat.le_refl _))]
                omega
              have HST := Lib.hid (show grp bs ap (k + 1) = grp bs ap k ++ [[k]] by
                show stp bs ap (grp bs ap k) k = _
                unfold stp
                rw [if_neg hixm])
              have hGW := HGS.out.kept0 hgi
              have gR := World.grownBy_alloc wr (.cells #[.int .i64 (k : Int)] 2) none
              have hrowO : (wr.alloc (.cells #[.int .i64 (k : Int)] 2)).ownsRow w1.heap.size 2 1 (.slice (some ⟨wr.heap.size, 0, none⟩) 1 1) [k].length (ints (gz [k])) := World.ownsRow_lit (base := w1.heap.size) (e := 2) (size := 1) wr #[.int .i64 (k : Int)] 1 hsz (by decide) rfl
              have hb1 := fun i (hi : i < (grp bs ap k).length) b (e : (V.getD i undef).ownBlock = some b) => (hGW.rows i hi).lt b e
              have hb2 := fun b (e : (Value.slice O (grp bs ap k).length d0).ownBlock = some b) => hGW.outer.lt b e
              obtain ⟨g6, c6, w6, hrun, hS6, hK6⟩ := GS.more (w := wr.alloc (.cells #[.int .i64 (k : Int)] 2)) (rv := .slice (some ⟨wr.heap.size, 0, none⟩) 1 1) (g := [k]) (hGW.kept0 gR) (by simp; omega) (by omega) hrowO
                (fun i hi b e e2 => by have := (hb1 i hi b e).2; have e3 : wr.heap.size = b := Option.some.inj e2; omega) (fun b e e2 => by have := (hb2 b e2).2; have e3 : wr.heap.size = b := Option.some.inj e; omega) rfl
              have HKK := Lib.hid (And.intro hS6 (hK6 w1 (Nat.le_refl _) ((HG.out.trans hgi).trans gR)))
              have hsA : (wr.alloc (.cells #[.int .i64 (k : Int)] 2)).heap.size = wr.heap.size + 1 := by simp
              rw [hsA] at hrun
              have hlen : (grp bs ap (k + 1)).length = (grp bs ap k).length + 1 := by rw [HST.out]; simp
              have HLEN := Lib.hid hlen
              clear hixm hGW gR hrowO hb1 hb2 hS6 hK6 hlen hpre hgi
              go_wp2_with fail
              refine ⟨⟨k + 1, by omega, by go_num, ⟨some ⟨g6, 0, none⟩, c6, V ++ [Value.slice (some ⟨wr.heap.size, 0, none⟩) 1 1], by rw [HLEN.out], ?_⟩, HKK.out.2⟩, by simp [intOf]; omega⟩
              rw [HLEN.out, HST.out]
              exact HKK.out.1
        · obtain rfl : k = bs.length := by omega
          have HH := Lib.hid (And.intro (gs_mono hGS HG1.out.size) (HG1.out.trans hg))
          clear hGS hg
          go_wp2_with fail
          go_ret2
          first | exact ⟨_, _, rfl, ⟨_, HH.out.1⟩, HH.out.2⟩ | exact ⟨_, _, _, rfl, HH.out.1, HH.out.2⟩
    · rw [(fok_ap hap).1, (fok_ap hap).2]
      have HN := Lib.hid (show ap < 0 ∨ 128 < ap by omega)
      clear HA0 hr ha hap
      go_enter Try.func53, Try.ntmps53
      go_wp2_with fail
      refine HA.out.mono ?_
      rintro e w1 ⟨rfl, g1⟩
      go_wp2_with fail
      refine (in_no _ _ _ _ HN.out).mono ?_
      rintro e w' ⟨rfl, hw⟩
      subst hw
      go_wp2_with fail
      go_ret2
      exact ⟨none, 0, [], rfl, gs_nil _ _, g1⟩
end

end Go.Proofs.Ytkjmlpdbnnmlhaa.farS
