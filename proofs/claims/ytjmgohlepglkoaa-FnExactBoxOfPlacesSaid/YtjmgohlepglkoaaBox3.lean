/- The box around places, by the model. -/
import Derived.Test.YtjmgohlepglkoaaRows
import Derived.Test.YtjmgohlepglkoaaSlc
import Derived.Test.YtjmgohlepglkoaaSmall
import Derived.Test.YtjmgohlepglkoaaOpens
import Derived.Test.YtjmgohlepglkoaaPlaces
import Derived.Test.YtjmgohlepglkoaaPlaceSet
import Derived.Test.YtjmgohlepglkoaaListP
import Derived.Test.YtjmgohlepglkoaaBox
import Derived.Test.YtjmgohlepglkoaaBox2
import Derived.WalkKit
import Derived.ProofKit
import Derived.OpenShut
import Derived.ShutString
import Derived.ChangeOld
import Derived.Below
import Derived.Lib.Hide
import Derived.BigQuiet
import Derived.Deep.QuietTactic
import Derived.WalkLawsBesides
import Derived.Outline
import Derived.Deep.QuietTactic
import Derived.BigQuiet
import Derived.Deep.LoopGhost
import Derived.Deep.RegionHeld3
import Derived.Deep.RegionWith
import Derived.RegionTactic
import Derived.ChangeAlike
import Derived.BigRegion
import Derived.StillTailTactics
namespace Go.Proofs.Ytjmgohlepglkoaa.box3
open Go.ChangeShapes Go.WideShapes Go.ChangeAt Go.RowKit
open Go.ChangeMaps (open_string shut_string)
set_option linter.unusedVariables false
open Go Go.RowKit
open Go.Proofs.Ytjmgohlepglkoaa.slc Go.Proofs.Ytjmgohlepglkoaa.small Go.Proofs.Ytjmgohlepglkoaa.opens Go.Proofs.Ytjmgohlepglkoaa.places Go.Proofs.Ytjmgohlepglkoaa.placeSet Go.Proofs.Ytjmgohlepglkoaa.listP Go.Proofs.Ytjmgohlepglkoaa.box Go.Proofs.Ytjmgohlepglkoaa.box2

set_option maxHeartbeats 8000000 in
set_option maxRecDepth 100000 in
theorem box_spec (ad : Addr) (c B : Nat) (ps : List (Int × Int)) (w : World) (hm : ps.length ≤ 9223372036854775807) (hr : Rd w B (some ad) (ps.length * 2) (pcell ps)) (hB : B ≤ w.heap.size) (hv : vp ps = true) :
    Calls Try.prog 37 #[.slice (some ad) ps.length c] w fun e w' => e = .returned (.tuple #[.agg #[.int .i64 (lx ps ps.length), .int .i64 (ly ps ps.length)], .agg #[.int .i64 (hx ps ps.length), .int .i64 (hy ps ps.length)], .bool true]) ∧ w.grownBy w' none := by
  have hl := vp_yes hv
  have h1 : 0 < ps.length := by omega
  have k2 : (World.alloc w (.cells #[.int .i64 0, .int .i64 0] 58)).heap.size = w.heap.size + 1 := by simp
  have hb2 := (Bx.new w 0 0).keep (World.grownBy_alloc _ (.cells #[.int .i64 0, .int .i64 0] 58) none) (by simp)
  have hb3 := Bx.new (w.alloc (.cells #[.int .i64 0, .int .i64 0] 58)) 0 0
  rw [k2] at hb3
  have hg0 := (World.grownBy_alloc w (.cells #[.int .i64 0, .int .i64 0] 58) none).trans (World.grownBy_alloc _ (.cells #[.int .i64 0, .int .i64 0] 58) none)
  have hC := is_spec (some ad) c B ps _ hm (hr.kept0 hg0 hB) (Nat.le_trans hB hg0.size)
  rw [hv] at hC
  have HC := Lib.hid hC
  have HB2 := Lib.hid hb2
  have HB3 := Lib.hid hb3
  clear hC hb2 hb3
  go_enter Try.func37, Try.ntmps37
  go_wp2_with fail
  refine HC.out.mono ?_
  rintro e w1 ⟨rfl, hg1⟩
  have B2 := HB2.out.keep hg1 (by simp)
  have B3 := HB3.out.keep hg1 (by simp)
  have R1 := hr.kept0 (hg0.trans hg1) hB
  obtain ⟨ad', e, hab, c0, c1⟩ := Rd.pair R1 h1
  injection e with e; subst e
  have hz1 : B ≤ w1.heap.size := Nat.le_trans hB (hg0.trans hg1).size
  have hlt : ad.block < w1.heap.size := Nat.lt_of_lt_of_le hab hz1
  have hne : ad.block ≠ w1.heap.size := by omega
  have p0 : (0 : Int) < ps.length := by omega
  have e0 : w1.cell? ad = some (.int .i64 ps[0].1) := c0
  have e1 : w1.cell? ⟨ad.block, ad.off + 1, none⟩ = some (.int .i64 ps[0].2) := c1
  clear c0 c1
  obtain ⟨s1, s2, s3, s4⟩ := succs ps 0 h1
  have hl0 : lx ps 1 = ps[0].1 := by rw [s1, show lx ps 0 = ps[0].1 by simp [lx, List.getD, h1], mn_self]
  have hl1 : ly ps 1 = ps[0].2 := by rw [s2, show ly ps 0 = ps[0].2 by simp [ly, List.getD, h1], mn_self]
  have hh0 : hx ps 1 = ps[0].1 := by rw [s3, show hx ps 0 = ps[0].1 by simp [hx, List.getD, h1], mx_self]
  have hh1 : hy ps 1 = ps[0].2 := by rw [s4, show hy ps 0 = ps[0].2 by simp [hy, List.getD, h1], mx_self]
  clear s1 s2 s3 s4
  generalize ps[0].1 = x0 at *
  generalize ps[0].2 = y0 at *
  have gal := World.grownBy_alloc w1 (.cells #[.int .i64 x0, .int .i64 y0] 58) none
  have f0 := gal.cell e0 (by simp)
  have f1 := gal.cell e1 (by simp)
  have hW : ∃ W0, (w1.alloc (.cells #[.int .i64 x0, .int .i64 y0] 58)).alloc (.cells #[.int .i64 x0, .int .i64 y0] 58) = W0 := ⟨_, rfl⟩
  obtain ⟨W0, hW⟩ := hW
  have gd : w1.grownBy W0 none := by rw [← hW]; exact (World.grownBy_alloc _ _ _).trans (World.grownBy_alloc _ _ _)
  have hW0s : W0.heap.size = w1.heap.size + 2 := by rw [← hW]; simp
  have BLf : Bx W0 w1.heap.size x0 y0 := by
    rw [← hW]; exact (Bx.new w1 x0 y0).keep (World.grownBy_alloc _ (.cells #[.int .i64 x0, .int .i64 y0] 58) none) (by simp)
  have BHf : Bx W0 (w1.heap.size + 1) x0 y0 := by
    have q2 := Bx.new (w1.alloc (.cells #[.int .i64 x0, .int .i64 y0] 58)) x0 y0
    rw [World.size_alloc] at q2
    rw [← hW]; exact q2
  have B2f := B2.keep gd (by simp)
  have B3f := B3.keep gd (by simp)
  have Rf := R1.kept0 gd hz1
  have gf := (hg0.trans hg1).trans gd
  have hw2 : w.heap.size + 2 ≤ w1.heap.size := by have := hg1.size; simp at this; omega
  have HW := Lib.hid hW
  clear B2 B3 R1 gd HB2 HB3 HC hW
  go_wp2_with fail
  rw [HW.out]
  go_loopw [7] (fun i wr => ∃ k : Nat, 1 ≤ k ∧ k ≤ ps.length ∧ i = .int .i64 k ∧ Bx wr w1.heap.size (lx ps k) (ly ps k) ∧ Bx wr (w1.heap.size + 1) (hx ps k) (hy ps k) ∧ Bx wr w.heap.size 0 0 ∧ Bx wr (w.heap.size + 1) 0 0 ∧ Rd wr B (some ad) (ps.length * 2) (pcell ps) ∧ w.grownBy wr none ∧ w1.heap.size + 2 ≤ wr.heap.size) (fun i _ => ps.length - (intOf i).toNat)
  case atStart => exact ⟨1, Nat.le_refl _, h1, rfl, by rw [hl0, hl1]; exact BLf, by rw [hh0, hh1]; exact BHf, B2f, B3f, Rf, gf, by omega⟩
  case round =>
    obtain ⟨k, hk1', hk, rfl, bl, bh, b2, b3, rr, hg, hsz⟩ := hrel
    by_cases hlt : k < ps.length
    · obtain ⟨ad', e, _, c0, c1⟩ := Rd.pair rr hlt
      injection e with e; subst e
      have hk0 : (0 : Int) ≤ k := by omega
      have hk1 : (k : Int) < ps.length := by omega
      obtain ⟨s1, s2, s3, s4⟩ := succs ps k hlt
      have E1 := Lib.hid s1
      have E2 := Lib.hid s2
      have E3 := Lib.hid s3
      have E4 := Lib.hid s4
      clear s1 s2 s3 s4
      generalize lx ps k = LX at *
      generalize ly ps k = LY at *
      generalize hx ps k = HX at *
      generalize hy ps k = HY at *
      generalize ps[k].1 = px at *
      generalize ps[k].2 = py at *
      have nel : ad.block ≠ w1.heap.size := by omega
      have neh : ad.block ≠ w1.heap.size + 1 := by omega
      have dd := gb_drewN wr 1 none
      have bl1 : Bx wr.drew w1.heap.size LX LY := bl.keep dd (by simp)
      have bh1 : Bx wr.drew (w1.heap.size + 1) HX HY := bh.keep dd (by simp)
      have b21 : Bx wr.drew w.heap.size 0 0 := b2.keep dd (by simp)
      have b31 : Bx wr.drew (w.heap.size + 1) 0 0 := b3.keep dd (by simp)
      have rr1 : Rd wr.drew B (some ad) (ps.length * 2) (pcell ps) := rr.drewN 1
      have g1 : w.grownBy wr.drew none := hg.trans dd
      have z1 : w1.heap.size + 2 ≤ wr.drew.heap.size := hsz
      have d0 : wr.drew.cell? (ad.add (k * 2)) = some (.int .i64 px) := c0
      have d1 : wr.drew.cell? ⟨(ad.add (k * 2)).block, (ad.add (k * 2)).off + 1, none⟩ = some (.int .i64 py) := c1
      obtain ⟨l0, l1, l2, l3⟩ := bl.facts
      have MN1 := Lib.hid (fun w => (min_spec LX px w).mono fun e w' h => (⟨h.1, h.2.symm⟩ : _ ∧ w' = w))
      have MN2 := Lib.hid (fun w => (min_spec LY py w).mono fun e w' h => (⟨h.1, h.2.symm⟩ : _ ∧ w' = w))
      have MX1 := Lib.hid (fun w => (max_spec HX px w).mono fun e w' h => (⟨h.1, h.2.symm⟩ : _ ∧ w' = w))
      have MX2 := Lib.hid (fun w => (max_spec HY py w).mono fun e w' h => (⟨h.1, h.2.symm⟩ : _ ∧ w' = w))
      clear bl bh b2 b3 rr hg hsz dd
      go_wp2_with fail
      go_still_tail 17, (by kernel_rfl)
      still_call (MN1.out _)
      repeat still_step
      still_call (MN2.out _)
      repeat still_step
      refine wpStill_nil ?_
      change wpList _ _ _ _ _ wr.drew
      clear c0 c1 l0 l1 l2 l3
      generalize wr.drew = wd at bl1 bh1 b21 b31 rr1 g1 z1 d0 d1 ⊢
      obtain ⟨l0, l1, l2, l3⟩ := bl1.facts
      obtain ⟨bl2, gl2⟩ := bl1.put (mn LX px) (mn LY py)
      have bh2 := bh1.keep gl2 (by simp)
      have b22 := b21.keep gl2 (by simp; omega)
      have b32 := b31.keep gl2 (by simp; omega)
      have rr2 := rr1.kept gl2 (by omega) (fun b hb hbB e => by injection e with e; subst e; omega)
      have g2 := gb_new g1 gl2 (by intro g e; injection e with e; omega)
      have z2 := Nat.le_trans z1 gl2.size
      have a0 := gl2.cell d0 (by rw [add_block]; simp; exact nel)
      have a1 := gl2.cell d1 (by simp only [add_block]; simp; exact nel)
      have G2 := Lib.hid g2
      have Z2 := Lib.hid z2
      have RR2 := Lib.hid rr2
      have BL2 := Lib.hid bl2
      have BH2 := Lib.hid bh2
      have B22 := Lib.hid b22
      have B32 := Lib.hid b32
      have A0 := Lib.hid a0
      have A1 := Lib.hid a1
      clear bl1 bh1 b21 b31 rr1 g1 z1 d0 d1 gl2 g2 z2 rr2 bl2 bh2 b22 b32 a0 a1
      obtain ⟨wx, hwx⟩ : ∃ wx, (wd.setCell ⟨w1.heap.size, 0, none⟩ (.int .i64 (mn LX px))).setCell ⟨w1.heap.size, 1, none⟩ (.int .i64 (mn LY py)) = wx := ⟨_, rfl⟩
      go_wp2_with fail
      simp only [hwx] at *
      clear hwx l0 l1 l2 l3
      have dd := gb_drewN wx 1 none
      have bl1 : Bx wx.drew w1.heap.size (mn LX px) (mn LY py) := BL2.out.keep dd (by simp)
      have bh1 : Bx wx.drew (w1.heap.size + 1) HX HY := BH2.out.keep dd (by simp)
      have b21 : Bx wx.drew w.heap.size 0 0 := B22.out.keep dd (by simp)
      have b31 : Bx wx.drew (w.heap.size + 1) 0 0 := B32.out.keep dd (by simp)
      have rr1 : Rd wx.drew B (some ad) (ps.length * 2) (pcell ps) := RR2.out.drewN 1
      have g1 : w.grownBy wx.drew none := G2.out.trans dd
      have z1 : w1.heap.size + 2 ≤ wx.drew.heap.size := Z2.out
      obtain ⟨q0, q1, q2, q3⟩ := BH2.out.facts
      have a0 := A0.out
      have a1 := A1.out
      clear BL2 BH2 B22 B32 RR2 G2 Z2 A0 A1 dd
      go_still_tail 17, (by kernel_rfl)
      still_call (MX1.out _)
      repeat still_step
      still_call (MX2.out _)
      repeat still_step
      refine wpStill_nil ?_
      change wpList _ _ _ _ _ wx.drew
      clear a0 a1 q0 q1 q2 q3
      generalize wx.drew = wd2 at bl1 bh1 b21 b31 rr1 g1 z1 ⊢
      obtain ⟨q0, q1, q2, q3⟩ := bh1.facts
      obtain ⟨bh2, gl2⟩ := bh1.put (mx HX px) (mx HY py)
      have bl2 := bl1.keep gl2 (by simp)
      have b22 := b21.keep gl2 (by simp; omega)
      have b32 := b31.keep gl2 (by simp; omega)
      have rr2 := rr1.kept gl2 (by omega) (fun b hb hbB e => by injection e with e; subst e; omega)
      have g2 := gb_new g1 gl2 (by intro g e; injection e with e; omega)
      have z2 := Nat.le_trans z1 gl2.size
      have G2 := Lib.hid g2
      have Z2 := Lib.hid z2
      have RR2 := Lib.hid rr2
      have BL2 := Lib.hid bl2
      have BH2 := Lib.hid bh2
      have B22 := Lib.hid b22
      have B32 := Lib.hid b32
      clear bl1 bh1 b21 b31 rr1 g1 z1 gl2 g2 z2 rr2 bl2 bh2 b22 b32
      go_wp2
      go_roundw
      case rel => exact ⟨k + 1, by omega, by omega, by go_num, by rw [E1.out, E2.out]; exact BL2.out, by rw [E3.out, E4.out]; exact BH2.out, B22.out, B32.out, RR2.out, G2.out, Z2.out⟩
      case measure => simp [intOf]; omega
    · obtain rfl : k = ps.length := by omega
      obtain ⟨l0, l1, l2, l3⟩ := bl.facts
      obtain ⟨q0, q1, q2, q3⟩ := bh.facts
      obtain ⟨u0, u1, u2, u3⟩ := b2.facts
      obtain ⟨v0, v1, v2, v3⟩ := b3.facts
      obtain ⟨d2, gd2⟩ := b2.put (lx ps ps.length) (ly ps ps.length)
      have b3' := b3.keep gd2 (by simp)
      obtain ⟨d3, gd3⟩ := b3'.put (hx ps ps.length) (hy ps ps.length)
      obtain ⟨n0, n1, _, _⟩ := (d2.keep gd3 (by simp)).facts
      obtain ⟨o0, o1, _, _⟩ := d3.facts
      have gfin := (gb_new (gb_new hg gd2 (by intro g e; injection e with e; omega)) gd3 (by intro g e; injection e with e; omega)).trans (gb_drewN _ 1 none)
      have N0 := Lib.hid n0
      have N1 := Lib.hid n1
      have O0 := Lib.hid o0
      have O1 := Lib.hid o1
      have GF := Lib.hid gfin
      clear d2 gd2 b3' d3 gd3 n0 n1 o0 o1 gfin
      go_wp2_with fail
      go_region
      all_goals
        go_wp2
        have n0 := N0.out
        have n1 := N1.out
        have o0 := O0.out
        have o1 := O1.out
        exact bodyPost_ret (v := .tuple #[.agg #[.int .i64 (lx ps ps.length), .int .i64 (ly ps ps.length)], .agg #[.int .i64 (hx ps ps.length), .int .i64 (hy ps ps.length)], .bool true]) (by simp [results, Try.results37, go_sem, n0, n1, o0, o1]) rfl ⟨rfl, GF.out⟩

end Go.Proofs.Ytjmgohlepglkoaa.box3
