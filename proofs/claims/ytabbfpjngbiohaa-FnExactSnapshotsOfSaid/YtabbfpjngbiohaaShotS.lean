/- What all elements receive, by the model. -/
import Derived.Test.YtabbfpjngbiohaaRows
import Derived.Test.YtabbfpjngbiohaaSlc
import Derived.Test.YtabbfpjngbiohaaSmall
import Derived.Test.YtabbfpjngbiohaaOpens
import Derived.Test.YtabbfpjngbiohaaPlaces
import Derived.Test.YtabbfpjngbiohaaPlaceSet
import Derived.Test.YtabbfpjngbiohaaSteps
import Derived.Test.YtabbfpjngbiohaaFloats
import Derived.Test.YtabbfpjngbiohaaRound
import Derived.Test.YtabbfpjngbiohaaValues
import Derived.Test.YtabbfpjngbiohaaConv
import Derived.Test.YtabbfpjngbiohaaFWalk
import Derived.Test.YtabbfpjngbiohaaFinWalk
import Derived.Test.YtabbfpjngbiohaaRoot
import Derived.Test.YtabbfpjngbiohaaFloat2
import Derived.Test.YtabbfpjngbiohaaFloat3
import Derived.Test.YtabbfpjngbiohaaPhase
import Derived.Test.YtabbfpjngbiohaaSine
import Derived.Test.YtabbfpjngbiohaaPhasor
import Derived.Test.YtabbfpjngbiohaaListC
import Derived.Test.YtabbfpjngbiohaaListCC
import Derived.Test.YtabbfpjngbiohaaSteerNum
import Derived.Test.YtabbfpjngbiohaaSineIn
import Derived.Test.YtabbfpjngbiohaaPolyNum
import Derived.Test.YtabbfpjngbiohaaPolyW
import Derived.Test.YtabbfpjngbiohaaGPoly
import Derived.Test.YtabbfpjngbiohaaGNum
import Derived.Test.YtabbfpjngbiohaaRq
import Derived.Test.YtabbfpjngbiohaaPowW
import Derived.Test.YtabbfpjngbiohaaTwinNum
import Derived.Test.YtabbfpjngbiohaaPhDef
import Derived.Test.YtabbfpjngbiohaaPhTabA
import Derived.Test.YtabbfpjngbiohaaPhTabB
import Derived.Test.YtabbfpjngbiohaaPhTabC
import Derived.Test.YtabbfpjngbiohaaPhTabD
import Derived.Test.YtabbfpjngbiohaaPhVal
import Derived.Test.YtabbfpjngbiohaaPhMath
import Derived.Test.YtabbfpjngbiohaaPhPhi
import Derived.Test.YtabbfpjngbiohaaSteerR
import Derived.Test.YtabbfpjngbiohaaMulAny
import Derived.Test.YtabbfpjngbiohaaFitsAny
import Derived.Test.YtabbfpjngbiohaaSeeds
import Derived.Test.YtabbfpjngbiohaaSymbol
import Derived.Test.YtabbfpjngbiohaaNoise
import Derived.Test.YtabbfpjngbiohaaSources
import Derived.Test.YtabbfpjngbiohaaListSrc
import Derived.Test.YtabbfpjngbiohaaSrcs
import Derived.Test.YtabbfpjngbiohaaSteering
import Derived.Test.YtabbfpjngbiohaaShot
import Derived.WalkKit
import Derived.ProofKit
import Derived.OpenShut
import Derived.ShutString
import Derived.ChangeOld
import Derived.Below
import Derived.Lib.Hide
import Derived.BigQuiet
import Derived.Deep.QuietTactic
import Derived.WalkLawsBesides
import Derived.Outline
import Derived.Deep.QuietTactic
import Derived.BigQuiet
import Derived.Deep.LoopGhost
import Derived.Deep.RegionHeld3
import Derived.Deep.RegionWith
import Derived.Laws.ComplexArith
import Derived.StillTailTactics
namespace Go.Proofs.Ytabbfpjngbiohaa.shotS
open Go.ChangeShapes Go.WideShapes Go.ChangeAt Go.RowKit
open Go.ChangeMaps (open_string shut_string)
set_option linter.unusedVariables false
open Go Ieee Go.RowKit
open Go.Proofs.Ytabbfpjngbiohaa.slc Go.Proofs.Ytabbfpjngbiohaa.small Go.Proofs.Ytabbfpjngbiohaa.opens Go.Proofs.Ytabbfpjngbiohaa.places Go.Proofs.Ytabbfpjngbiohaa.floats Go.Proofs.Ytabbfpjngbiohaa.round Go.Proofs.Ytabbfpjngbiohaa.values Go.Proofs.Ytabbfpjngbiohaa.conv Go.Proofs.Ytabbfpjngbiohaa.fWalk Go.Proofs.Ytabbfpjngbiohaa.listC Go.Proofs.Ytabbfpjngbiohaa.listCC Go.Proofs.Ytabbfpjngbiohaa.steerNum Go.Proofs.Ytabbfpjngbiohaa.mulAny Go.Proofs.Ytabbfpjngbiohaa.fitsAny Go.Proofs.Ytabbfpjngbiohaa.seeds Go.Proofs.Ytabbfpjngbiohaa.symbol Go.Proofs.Ytabbfpjngbiohaa.noise Go.Proofs.Ytabbfpjngbiohaa.sources Go.Proofs.Ytabbfpjngbiohaa.listSrc Go.Proofs.Ytabbfpjngbiohaa.srcs Go.Proofs.Ytabbfpjngbiohaa.steering Go.Proofs.Ytabbfpjngbiohaa.shot
attribute [local go_sem] run_store_float run_store_complex cadd_any
set_option maxHeartbeats 1600000 in
set_option maxRecDepth 100000 in
theorem shot_s (A A' : Option Addr) (c c' B : Nat) (ps : List (Int × Int)) (ss : List (Int × Int × Nat × Int)) (t : Nat) (s i : Int) (w : World) (hv : vp ps = true) (hvs : vs ss = true) (s0 : 0 ≤ s) (s1 : s ≤ 2147483647) (i0 : 0 ≤ i) (i1 : i ≤ 1000000)
    (hr : Rd w B A (ps.length * 2) (pcell ps)) (hr' : Rd w B A' (ss.length * 4) (scell ss)) (hB : B ≤ w.heap.size) :
    Calls Try.prog 129 #[.slice A ps.length c, .slice A' ss.length c', .float .f32 t, .int .i64 s, .int .i64 i] w fun e w' => ∃ A2 c2 l, e = .returned (.slice A2 ps.length c2) ∧ Cn l ps.length (fun k => plus (cs ps ss i k ss.length) (nse s i k t)) ∧
      w'.ownsRow w.heap.size 36 1 (.slice A2 ps.length c2) ps.length (lst (ccell l) ps.length) ∧ w.grownBy w' none := by
  obtain ⟨f0, hi0, hz0, hz1, hz2⟩ := info_parts infoC
  have hl16 := (vp_yes hv).2.1
  have hl4 := vs_len hvs
  have HV := Lib.hid hv
  have HVS := Lib.hid hvs
  have HR := Lib.hid hr
  have HR' := Lib.hid hr'
  clear hv hvs hr hr'
  go_enter Try.func129, Try.ntmps129
  go_wp2_with (at_make; refine wpList_make_full _ rfl _ _ _ rfl w.heap.size 36 f0 (.complex .f32 0 0) 1 Try.underlying24 hi0 hz0 hz1 _ _ _ _ ps.length rfl rfl rfl rfl (by rw [hz2]; omega) (by unfold maxLen; omega) (Nat.le_refl _) ?_; intro w1 hown hg)
  go_loopw [12] (fun q wr => ∃ j : Nat, j ≤ ss.length ∧ q = .int .i64 j ∧ ∃ l, Cn l ps.length (fun k => cs ps ss i k j) ∧ wr.ownsRow w.heap.size 36 1 (.slice (some ⟨w.heap.size, 0, none⟩) ps.length ps.length) ps.length (lst (ccell l) ps.length) ∧ w.grownBy wr none) (fun q _ => ss.length - (intOf q).toNat)
  case atStart =>
    refine ⟨0, Nat.zero_le _, rfl, _, Cn.zero _ _ _ _, ?_, hg⟩
    rw [zeros_cells]
    rw [Nat.mul_one] at hown
    have h := (toList_madeCells_one (.complex .f32 0 0) ps.length) ▸ hown
    simpa using h
  case round =>
    obtain ⟨j, hj, rfl, l, hc, hown, hg⟩ := hrel
    by_cases hjt : j < ss.length
    · obtain ⟨ad, u, v, sd, g, hA', _, hx, hc0, hc1, hc2, hc3⟩ := Rd.four (HR'.out.kept0 hg hB) hjt
      subst hA'
      have hat := vs_at HVS.out hjt
      rw [hx] at hat
      obtain ⟨hd, sd0, sd1⟩ := hat
      have HC := Lib.hid hc
      have HX := Lib.hid hx
      have HD := Lib.hid hd
      have HO := Lib.hid hown
      have HG := Lib.hid hg
      clear hc hx hd hown hg
      have HSY := Lib.hid (fun w => sym_l sd i w sd0 sd1 i0 i1)
      go_wp2_with fail
      go_region_with (first
        | (go_at_call 116
           refine (HSY.out _).mono ?_
           rintro e w' ⟨rfl, rfl⟩)
        | (go_at_call 181
           refine (scale_s _ _ _ _).mono ?_
           rintro e w2 ⟨p, q, rfl, hp, hq, g2⟩))
      all_goals
        have HP := Lib.hid hp
        have HQ := Lib.hid hq
        have HINC := Lib.hid (fun (z : Nat × Nat) => inc_can (x := sent sd i g) (a := p) (b := q) z hp hq)
        have hgd : wr.grownBy w2 none := World.grownBy.trans (gb_drewN wr 1 none) g2
        have G2 := Lib.hid (HG.out.trans hgd)
        have O2 := Lib.hid (own_kept0 HO.out hgd)
        obtain ⟨ad', u', v', sd', g', e', _, hx', hd0, hd1, hd2, hd3⟩ := Rd.four (HR'.out.kept0 G2.out hB) hjt
        obtain rfl : ad = ad' := by injection e'
        rw [HX.out] at hx'
        simp only [Prod.mk.injEq] at hx'
        obtain ⟨rfl, rfl, rfl, rfl⟩ := hx'
        clear hp hq hgd g2 hc0 hc1 hc2 hc3 e' hd2 hd3
        go_wp2_with fail
        refine (stg_spec A c B ps u v _ (HR.out.kept0 G2.out hB) (Nat.le_trans hB G2.out.size) HV.out HD.out).mono ?_
        rintro e w3 ⟨A3, c3, rfl, o3, g3⟩
        have R3 := Lib.hid (Rd.of_lst o3 (Nat.mul_one _).symm)
        have G3 := Lib.hid (G2.out.trans g3)
        have O3 := Lib.hid (own_kept0 O2.out g3)
        have HA3 := Lib.hid (show ∀ b, A3.map Addr.block = some b → w.heap.size < b from fun b hb => Nat.lt_of_lt_of_le (own_base O2.out w.heap.size rfl).2 (own_base o3 b hb).1)
        clear o3 g3 O2 hd0 hd1
        go_wp2_with fail
        go_loopw [15] (fun y wr => ∃ q : Nat, q ≤ ps.length ∧ y = .int .i64 q ∧ ∃ l, Cn l ps.length (fun k => if k < q then cs ps ss i k (j + 1) else cs ps ss i k j) ∧ wr.ownsRow w.heap.size 36 1 (.slice (some ⟨w.heap.size, 0, none⟩) ps.length ps.length) ps.length (lst (ccell l) ps.length) ∧ Rd wr w3.heap.size A3 ps.length (ccell (stl ps u v)) ∧ w3.heap.size ≤ wr.heap.size ∧ w.grownBy wr none) (fun y _ => ps.length - (intOf y).toNat)
        case atStart => exact ⟨0, Nat.zero_le _, rfl, l, HC.out.congr (fun k _ => by rw [if_neg (by omega)]), O3.out, R3.out, Nat.le_refl _, G3.out⟩
        case round =>
          obtain ⟨q', hq', rfl, l', hc, hown, hR, hs3, hg⟩ := hrel
          by_cases hqt : q' < ps.length
          · obtain ⟨ad3, hA3, hb3, hph⟩ := hR.at_ hqt
            subst hA3
            have hw3 := G3.out.size
            have hsh := hown.cellAt q' (by omega)
            rw [lst_get _ _ _ hqt] at hsh
            have hfr := hown.frozenAt q'
            have hst := stl_at ps u v q' hqt
            have hbd := (steps_bd (ok_at HV.out q' hqt) HD.out).1
            have hfit := fit_all (n := ps[q'].1 * u + ps[q'].2 * v) (sy_half _) (sy_half _) HP.out HQ.out hbd
            rw [← hst] at hfit
            unfold ccell at hph hsh
            obtain ⟨y, hy⟩ : ∃ y, y = l'.getD q' (0, 0) := ⟨_, rfl⟩
            rw [← hy] at hsh
            have hcan := hc.2 q' hqt
            have hcs := cs_step (ps := ps) (i := i) HX.out q'
            dsimp only at hcan
            rw [if_neg (by omega), ← hy] at hcan
            have HM := Lib.hid (fun w => mul_b p q _ _ w hfit.1 hfit.2)
            have HI1 := Lib.hid (HINC.out ((stl ps u v).getD q' (0, 0)))
            have HCS := Lib.hid hcs
            have HCN := Lib.hid hcan
            have HL := Lib.hid hc
            have HO := Lib.hid hown
            have HG := Lib.hid hg
            have HRR := Lib.hid hR
            have k0 : (0 : Int) ≤ q' := by omega
            have k1 : (q' : Int) < ps.length := by omega
            clear hst hbd hfit hcan hcs hc hown hg hR hy
            generalize (stl ps u v).getD q' (0, 0) = z at *
            go_wp2_with fail
            go_region_with (first
              | (go_at_call 186
                 refine (HM.out _).mono ?_
                 rintro e w5 ⟨r1, r2, rfl, hr1, hr2, hg5⟩
                 have hc5 := hg5.cell (show wr.drew.cell? _ = _ from hsh) (by simp)
                 have hO5 := own_kept0 (World.ownsRow.drew HO.out) hg5
                 have hf5 := hO5.frozenAt q'
                 clear hO5))
            all_goals
              have hq1 : can .f32 r1 = (inc (sent sd i g) z).1 := by rw [← HI1.out]; exact hr1
              have hq2 : can .f32 r2 = (inc (sent sd i g) z).2 := by rw [← HI1.out]; exact hr2
              obtain ⟨u1, u2⟩ := plus_can HCN.out.1 HCN.out.2 hq1 hq2 w5 (w5.drewN (fcnt .add .f32 y.1 r1))
              rw [← HCS.out] at u1 u2
              generalize fval .add .f32 w5 y.1 r1 = P1 at *
              generalize fval .add .f32 (w5.drewN (fcnt .add .f32 y.1 r1)) y.2 r2 = P2 at *
              generalize fcnt .add .f32 y.1 r1 + fcnt .add .f32 y.2 r2 = NN at *
              have hgw : wr.grownBy (w5.drewN NN) none := (gb_drewN wr 1 none).trans (World.grownBy.trans hg5 (gb_drewN _ NN none))
              obtain ⟨p1, n1⟩ := (own_kept0 HO.out hgw).stored q' (.complex .f32 P1 P2)
              rw [set_ccell l' ps.length q' hqt HL.out.1 (P1, P2)] at p1
              have HN := Lib.hid ((HL.out.set hqt (x := (P1, P2)) u1 u2).congr (G := fun k => if k < q' + 1 then cs ps ss i k (j + 1) else cs ps ss i k j) (fun k hk => by
                by_cases e : k = q'
                · rw [if_pos e, if_pos (by omega), e]
                · rw [if_neg e]
                  by_cases h : k < q'
                  · rw [if_pos h, if_pos (by omega)]
                  · rw [if_neg h, if_neg (by omega)]))
              have HP1 := Lib.hid p1
              have HR5 := Lib.hid ((HRR.out.kept0 hgw hs3).kept n1 (Nat.le_trans hs3 hgw.size) (fun b hb _ e => by injection e with e; have := HA3.out b hb; omega))
              have HG5 := Lib.hid (gb_new (HG.out.trans hgw) n1 (by intro g e; injection e with e; omega))
              have hs5 := Nat.le_trans hs3 (Nat.le_trans hgw.size n1.size)
              clear hq1 hq2 u1 u2 hgw p1 n1 hr1 hr2 hg5 hc5 hf5 hsh hfr hph
              go_wp2_with fail
              go_roundw
              case rel => exact ⟨q' + 1, by omega, by go_num, _, HN.out, HP1.out, HR5.out, hs5, HG5.out⟩
              case measure => simp [intOf]; omega
          · obtain rfl : q' = ps.length := by omega
            have HN := Lib.hid (hc.congr (G := fun k => cs ps ss i k (j + 1)) (fun k hk => by rw [if_pos hk]))
            clear hc hR
            go_wp2_with fail
            go_roundw
            case rel => exact ⟨j + 1, by omega, by go_num, _, HN.out, hown, hg⟩
            case measure => simp [intOf]; omega
    · obtain rfl : j = ss.length := by omega
      have HC := Lib.hid hc
      have HO := Lib.hid hown
      have HG := Lib.hid hg
      clear hc hown hg
      have HNS := Lib.hid (fun (k : Int) (w : World) (h5 : 0 ≤ k) (h6 : k ≤ 15) => noise_l s i k t w s0 s1 i0 i1 h5 h6)
      go_wp2_with fail
      go_loopw [16] (fun y wr => ∃ q : Nat, q ≤ ps.length ∧ y = .int .i64 q ∧ ∃ l, Cn l ps.length (fun k => if k < q then plus (cs ps ss i k ss.length) (nse s i k t) else cs ps ss i k ss.length) ∧ wr.ownsRow w.heap.size 36 1 (.slice (some ⟨w.heap.size, 0, none⟩) ps.length ps.length) ps.length (lst (ccell l) ps.length) ∧ w.grownBy wr none) (fun y _ => ps.length - (intOf y).toNat)
      case atStart => exact ⟨0, Nat.zero_le _, rfl, l, HC.out.congr (fun k _ => by rw [if_neg (by omega)]), HO.out, HG.out⟩
      case round =>
        obtain ⟨q', hq', rfl, l', hc, hown, hg⟩ := hrel
        by_cases hqt : q' < ps.length
        · have hcan := hc.2 q' hqt
          dsimp only at hcan
          rw [if_neg (by omega)] at hcan
          have HCN := Lib.hid hcan
          have HL := Lib.hid hc
          have HO' := Lib.hid hown
          have HG' := Lib.hid hg
          have k0 : (0 : Int) ≤ q' := by omega
          have k1 : (q' : Int) < ps.length := by omega
          have k2 : (q' : Int) ≤ 15 := by omega
          clear hcan hc hown hg
          obtain ⟨y, hy⟩ : ∃ y, y = l'.getD q' (0, 0) := ⟨_, rfl⟩
          have hsh := HO'.out.cellAt q' (by omega)
          rw [lst_get _ _ _ hqt] at hsh
          unfold ccell at hsh
          rw [← hy] at hsh HCN
          clear hy
          go_wp2_with fail
          go_region_with (first
            | (go_at_call 122
               refine (HNS.out _ _ k0 k2).mono ?_
               rintro e w5 ⟨r1, r2, rfl, hr1, hr2, hg5⟩
               have hc5 := hg5.cell (show wr.drew.cell? _ = _ from hsh) (by simp)
               have hO5 := own_kept0 (World.ownsRow.drew HO'.out) hg5
               have hf5 := hO5.frozenAt q'
               clear hO5))
          all_goals
            obtain ⟨u1, u2⟩ := plus_can HCN.out.1 HCN.out.2 (y := nse s i q' t) hr1 hr2 w5 (w5.drewN (fcnt .add .f32 y.1 r1))
            generalize fval .add .f32 w5 y.1 r1 = P1 at *
            generalize fval .add .f32 (w5.drewN (fcnt .add .f32 y.1 r1)) y.2 r2 = P2 at *
            generalize fcnt .add .f32 y.1 r1 + fcnt .add .f32 y.2 r2 = NN at *
            have hgw : wr.grownBy (w5.drewN NN) none := World.grownBy.trans (gb_drewN wr 1 none) (World.grownBy.trans hg5 (gb_drewN _ NN none))
            obtain ⟨p1, n1⟩ := (own_kept0 HO'.out hgw).stored q' (.complex .f32 P1 P2)
            rw [set_ccell l' ps.length q' hqt HL.out.1 (P1, P2)] at p1
            have HN := Lib.hid ((HL.out.set hqt (x := (P1, P2)) (y := plus (cs ps ss i q' ss.length) (nse s i q' t)) u1 u2).congr (G := fun k => if k < q' + 1 then plus (cs ps ss i k ss.length) (nse s i k t) else cs ps ss i k ss.length) (fun k hk => by
              by_cases e : k = q'
              · rw [if_pos e, if_pos (by omega), e]
              · rw [if_neg e]
                by_cases h : k < q'
                · rw [if_pos h, if_pos (by omega)]
                · rw [if_neg h, if_neg (by omega)]))
            have HP1 := Lib.hid p1
            have HGF := Lib.hid (gb_new (HG'.out.trans hgw) n1 (by intro g e; injection e with e; omega))
            clear u1 u2 hgw p1 n1 hr1 hr2 hg5 hc5 hf5 hsh
            go_wp2_with fail
            go_roundw
            case rel => exact ⟨q' + 1, by omega, by go_num, _, HN.out, HP1.out, HGF.out⟩
            case measure => simp [intOf]; omega
        · obtain rfl : q' = ps.length := by omega
          have HN := Lib.hid (hc.congr (G := fun k => plus (cs ps ss i k ss.length) (nse s i k t)) (fun k hk => by rw [if_pos hk]))
          clear hc
          go_wp2_with fail
          go_ret
          exact ⟨_, _, _, rfl, HN.out, hown, hg⟩

end Go.Proofs.Ytabbfpjngbiohaa.shotS
