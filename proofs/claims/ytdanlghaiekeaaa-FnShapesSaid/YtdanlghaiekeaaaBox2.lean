/- The box around places, by the program. -/
import Derived.Test.YtdanlghaiekeaaaRows
import Derived.Test.YtdanlghaiekeaaaSlc
import Derived.Test.YtdanlghaiekeaaaSmall
import Derived.Test.YtdanlghaiekeaaaOpens
import Derived.Test.YtdanlghaiekeaaaPlaces
import Derived.Test.YtdanlghaiekeaaaPlaceSet
import Derived.Test.YtdanlghaiekeaaaListP
import Derived.Test.YtdanlghaiekeaaaBox
import Derived.WalkKit
import Derived.ProofKit
import Derived.OpenShut
import Derived.ShutString
import Derived.ChangeOld
import Derived.Below
import Derived.Lib.Hide
import Derived.BigQuiet
import Derived.Deep.QuietTactic
import Derived.WalkLawsBesides
import Derived.Outline
import Derived.Deep.QuietTactic
import Derived.BigQuiet
import Derived.Deep.LoopGhost
import Derived.Deep.RegionHeld3
import Derived.Deep.RegionWith
import Derived.RegionTactic
import Derived.ChangeAlike
import Derived.BigRegion
namespace Go.Proofs.Ytdanlghaiekeaaa.box2
open Go.ChangeShapes Go.WideShapes Go.ChangeAt Go.RowKit
open Go.ChangeMaps (open_string shut_string)
set_option linter.unusedVariables false
open Go Go.RowKit
open Go.Proofs.Ytdanlghaiekeaaa.slc Go.Proofs.Ytdanlghaiekeaaa.small Go.Proofs.Ytdanlghaiekeaaa.opens Go.Proofs.Ytdanlghaiekeaaa.places Go.Proofs.Ytdanlghaiekeaaa.placeSet Go.Proofs.Ytdanlghaiekeaaa.listP Go.Proofs.Ytdanlghaiekeaaa.box

/-- A block of the call's own that holds a place. -/
def Bx (w : World) (b : Nat) (x y : Int) : Prop := w.ownsRow b 49 2 (.slice (some ⟨b, 0, none⟩) 1 1) 1 [.int .i64 x, .int .i64 y]
section
variable {w w' : World} {b : Nat} {x y : Int} {row : Option Nat}
theorem Bx.new (w : World) (x y : Int) : Bx (w.alloc (.cells #[.int .i64 x, .int .i64 y] 49)) w.heap.size x y := World.ownsRow_lit w #[.int .i64 x, .int .i64 y] 1 (Nat.le_refl _) (by decide) rfl
theorem Bx.facts (h : Bx w b x y) : w.cell? ⟨b, 0, none⟩ = some (.int .i64 x) ∧ w.cell? ⟨b, 1, none⟩ = some (.int .i64 y) ∧ w.frozen? ⟨b, 0, none⟩ = false ∧ w.frozen? ⟨b, 1, none⟩ = false :=
  ⟨h.cellAt 0 (by decide), h.cellAt 1 (by decide), h.frozenAt 0, h.frozenAt 1⟩
theorem Bx.put (h : Bx w b x y) (x' y' : Int) : Bx ((w.setCell ⟨b, 0, none⟩ (.int .i64 x')).setCell ⟨b, 1, none⟩ (.int .i64 y')) b x' y' ∧ w.grownBy ((w.setCell ⟨b, 0, none⟩ (.int .i64 x')).setCell ⟨b, 1, none⟩ (.int .i64 y')) (some b) := by
  obtain ⟨h1, h2⟩ := h.stored 0 (.int .i64 x')
  obtain ⟨h3, h4⟩ := h1.stored 1 (.int .i64 y')
  exact ⟨h3, h2.trans h4⟩
theorem Bx.keep (h : Bx w b x y) (hg : w.grownBy w' row) (hne : some b ≠ row) : Bx w' b x y := World.ownsRow.kept h hg (.inr (by simpa [Value.ownBlock] using hne))
theorem Bx.lt (h : Bx w b x y) : b < w.heap.size := World.block_lt_of_cell? w _ h.facts.1
end

theorem succs (ps : List (Int × Int)) (k : Nat) (h : k < ps.length) : lx ps (k + 1) = mn (lx ps k) ps[k].1 ∧ ly ps (k + 1) = mn (ly ps k) ps[k].2 ∧ hx ps (k + 1) = mx (hx ps k) ps[k].1 ∧ hy ps (k + 1) = mx (hy ps k) ps[k].2 := by
  have e : ps.getD k (0, 0) = ps[k] := by simp [List.getD, h]
  refine ⟨?_, ?_, ?_, ?_⟩
  · show mn (lx ps k) (ps.getD k (0, 0)).1 = _; rw [e]
  · show mn (ly ps k) (ps.getD k (0, 0)).2 = _; rw [e]
  · show mx (hx ps k) (ps.getD k (0, 0)).1 = _; rw [e]
  · show mx (hy ps k) (ps.getD k (0, 0)).2 = _; rw [e]
set_option maxHeartbeats 8000000 in
set_option maxRecDepth 100000 in
theorem box_impl (ad : Addr) (c B : Nat) (ps : List (Int × Int)) (w : World) (hm : ps.length ≤ 9223372036854775807) (hr : Rd w B (some ad) (ps.length * 2) (pcell ps)) (hB : B ≤ w.heap.size) (hv : vp ps = true) :
    Calls Try.prog 30 #[.slice (some ad) ps.length c] w fun e w' => e = .returned (.tuple #[.agg #[.int .i64 (lx ps ps.length), .int .i64 (ly ps ps.length)], .agg #[.int .i64 (hx ps ps.length), .int .i64 (hy ps ps.length)], .bool true]) ∧ w.grownBy w' none := by
  have hl := vp_yes hv
  have h1 : 0 < ps.length := by omega
  have k2 : (World.alloc w (.cells #[.int .i64 0, .int .i64 0] 49)).heap.size = w.heap.size + 1 := by simp
  have hb2 := (Bx.new w 0 0).keep (World.grownBy_alloc _ (.cells #[.int .i64 0, .int .i64 0] 49) none) (by simp)
  have hb3 := Bx.new (w.alloc (.cells #[.int .i64 0, .int .i64 0] 49)) 0 0
  rw [k2] at hb3
  have hg0 := (World.grownBy_alloc w (.cells #[.int .i64 0, .int .i64 0] 49) none).trans (World.grownBy_alloc _ (.cells #[.int .i64 0, .int .i64 0] 49) none)
  have hC := is_impl (some ad) c B ps _ hm (hr.kept0 hg0 hB) (Nat.le_trans hB hg0.size)
  rw [hv] at hC
  have HC := Lib.hid hC
  have HB2 := Lib.hid hb2
  have HB3 := Lib.hid hb3
  clear hC hb2 hb3
  go_enter Try.func30, Try.ntmps30
  go_wp2_with fail
  refine HC.out.mono ?_
  rintro e w1 ⟨rfl, hg1⟩
  have B2 := HB2.out.keep hg1 (by simp)
  have B3 := HB3.out.keep hg1 (by simp)
  have R1 := hr.kept0 (hg0.trans hg1) hB
  obtain ⟨ad', e, hab, c0, c1⟩ := Rd.pair R1 h1
  injection e with e; subst e
  have hz1 : B ≤ w1.heap.size := Nat.le_trans hB (hg0.trans hg1).size
  have hlt : ad.block < w1.heap.size := Nat.lt_of_lt_of_le hab hz1
  have hne : ad.block ≠ w1.heap.size := by omega
  have hne2 : ad.block ≠ w1.heap.size + 1 := by omega
  have p0 : (0 : Int) < ps.length := by omega
  have e0 : w1.cell? ad = some (.int .i64 ps[0].1) := c0
  have e1 : w1.cell? ⟨ad.block, ad.off + 1, none⟩ = some (.int .i64 ps[0].2) := c1
  clear c0 c1
  have hl0 : lx ps 0 = ps[0].1 := by simp [lx, List.getD, h1]
  have hl1 : ly ps 0 = ps[0].2 := by simp [ly, List.getD, h1]
  have hh0 : hx ps 0 = ps[0].1 := by simp [hx, List.getD, h1]
  have hh1 : hy ps 0 = ps[0].2 := by simp [hy, List.getD, h1]
  generalize ps[0].1 = x0 at *
  generalize ps[0].2 = y0 at *
  go_wp2_with fail
  go_region
  all_goals
    have hW : ∃ W0, ((w1.alloc (.cells #[.int .i64 x0, .int .i64 y0] 49)).alloc (.cells #[.int .i64 x0, .int .i64 y0] 49)).drew = W0 := ⟨_, rfl⟩
    obtain ⟨W0, hW⟩ := hW
    have gd : w1.grownBy W0 none := by rw [← hW]; exact ((World.grownBy_alloc _ _ _).trans (World.grownBy_alloc _ _ _)).trans (gb_drewN _ 1 none)
    have hW0s : W0.heap.size = w1.heap.size + 2 := by rw [← hW]; simp [World.drew]
    have HX0 : ∀ b, b = w1.heap.size ∨ b = w1.heap.size + 1 → Bx W0 b x0 y0 := fun b hb => by
      have q1 := ((Bx.new w1 x0 y0).keep (World.grownBy_alloc _ (.cells #[.int .i64 x0, .int .i64 y0] 49) none) (by simp)).keep (gb_drewN _ 1 none) (by simp)
      have q2 := (Bx.new (w1.alloc (.cells #[.int .i64 x0, .int .i64 y0] 49)) x0 y0).keep (gb_drewN _ 1 none) (by simp)
      rw [World.size_alloc] at q2
      rw [← hW]
      rcases hb with rfl | rfl
      · exact q1
      · exact q2
    have B2f := B2.keep gd (by simp)
    have B3f := B3.keep gd (by simp)
    have Rf := R1.kept0 gd hz1
    have gf := (hg0.trans hg1).trans gd
    have hw2 : w.heap.size + 2 ≤ w1.heap.size := by have := hg1.size; simp at this; omega
    rw [hW]
    clear hW B2 B3 R1 e0 e1 gd
  · have BLf : Bx W0 (w1.heap.size) x0 y0 := HX0 _ (by omega)
    have BHf : Bx W0 (w1.heap.size + 1) x0 y0 := HX0 _ (by omega)
    have hs0 : W0.heap.size = w1.heap.size + 2 := hW0s
    clear HB2 HB3 HC
    go_wp2_with fail
    go_loopw [22] (fun i wr => ∃ k : Nat, k ≤ ps.length ∧ i = .int .i64 k ∧ Bx wr (w1.heap.size) (lx ps k) (ly ps k) ∧ Bx wr (w1.heap.size + 1) (hx ps k) (hy ps k) ∧ Bx wr w.heap.size 0 0 ∧ Bx wr (w.heap.size + 1) 0 0 ∧ Rd wr B (some ad) (ps.length * 2) (pcell ps) ∧ w.grownBy wr none ∧ w1.heap.size + 2 ≤ wr.heap.size) (fun i _ => ps.length - (intOf i).toNat)
    case atStart => exact ⟨0, Nat.zero_le _, rfl, by rw [hl0, hl1]; exact BLf, by rw [hh0, hh1]; exact BHf, B2f, B3f, Rf, gf, by omega⟩
    case round =>
      obtain ⟨k, hk, rfl, bl, bh, b2, b3, rr, hg, hsz⟩ := hrel
      by_cases hlt : k < ps.length
      · obtain ⟨ad', e, _, c0, c1⟩ := Rd.pair rr hlt
        injection e with e; subst e
        have hk0 : (0 : Int) ≤ k := by omega
        have hk1 : (k : Int) < ps.length := by omega
        have sx := succs ps k hlt
        obtain ⟨s1, s2, s3, s4⟩ := sx
        obtain ⟨L1, hL1⟩ : ∃ L1, lx ps (k + 1) = L1 := ⟨_, rfl⟩
        obtain ⟨L2, hL2⟩ : ∃ L2, ly ps (k + 1) = L2 := ⟨_, rfl⟩
        obtain ⟨H1, hH1⟩ : ∃ H1, hx ps (k + 1) = H1 := ⟨_, rfl⟩
        obtain ⟨H2, hH2⟩ : ∃ H2, hy ps (k + 1) = H2 := ⟨_, rfl⟩
        have E1 := Lib.hid hL1
        have E2 := Lib.hid hL2
        have E3 := Lib.hid hH1
        have E4 := Lib.hid hH2
        rw [hL1] at s1
        rw [hL2] at s2
        rw [hH1] at s3
        rw [hH2] at s4
        clear hL1 hL2 hH1 hH2
        generalize lx ps k = LX at *
        generalize ly ps k = LY at *
        generalize hx ps k = HX at *
        generalize hy ps k = HY at *
        generalize ps[k].1 = px at *
        generalize ps[k].2 = py at *
        have gal := World.grownBy_alloc wr (.cells #[.int .i64 px, .int .i64 py] 49) none
        have bl1 := bl.keep gal (by simp)
        have bh1 := bh.keep gal (by simp)
        have b21 := b2.keep gal (by simp)
        have b31 := b3.keep gal (by simp)
        have bp1 := Bx.new wr px py
        have rr1 := rr.kept0 gal (by omega)
        have hg1' := hg.trans gal
        have nel : w1.heap.size ≠ wr.heap.size := by omega
        have neh : w1.heap.size + 1 ≠ wr.heap.size := by omega
        have hsz1 : w1.heap.size + 2 ≤ (wr.alloc (.cells #[.int .i64 px, .int .i64 py] 49)).heap.size := by simp; omega
        -- low
        obtain ⟨bl2, gl2⟩ := bl1.put L1 L2
        have bh2 := bh1.keep gl2 (by simp)
        have b22 := b21.keep gl2 (by simp; omega)
        have b32 := b31.keep gl2 (by simp; omega)
        have bp2 := bp1.keep gl2 (by simp; omega)
        have rr2 := rr1.kept gl2 (by omega) (fun b hb hbB e => by injection e with e; subst e; omega)
        -- high
        obtain ⟨bh3, gh3⟩ := bh2.put H1 H2
        have bl3 := bl2.keep gh3 (by simp)
        have b23 := b22.keep gh3 (by simp; omega)
        have b33 := b32.keep gh3 (by simp; omega)
        have rr3 := rr2.kept gh3 (by have := gl2.size; omega) (fun b hb hbB e => by injection e with e; subst e; omega)
        have g3 := gb_new (gb_new hg1' gl2 (by intro g e; injection e with e; omega)) gh3 (by intro g e; injection e with e; omega)
        have hsz3 := Nat.le_trans hsz1 (Nat.le_trans gl2.size gh3.size)
        obtain ⟨l0, l1, l2, l3⟩ := bl1.facts
        obtain ⟨p0, p1, _, _⟩ := bp1.facts
        obtain ⟨q0, q1, q2, q3⟩ := bh2.facts
        obtain ⟨r0, r1, _, _⟩ := bp2.facts
        have K1 := Lib.hid bl3
        have K2 := Lib.hid bh3
        have K3 := Lib.hid b23
        have K4 := Lib.hid b33
        have K5 := Lib.hid rr3
        have K6 := Lib.hid g3
        have K7 := Lib.hid hsz3
        clear bl bh b2 b3 rr hg bl1 bh1 b21 b31 bp1 rr1 hg1' bl2 gl2 bh2 b22 b32 bp2 rr2 bh3 gh3 bl3 b23 b33 rr3 g3 hsz3 hsz1 gal
        have m1 : (if px < LX then px else LX) = L1 := by rw [s1]; unfold mn; split <;> split <;> omega
        have m2 : (if py < LY then py else LY) = L2 := by rw [s2]; unfold mn; split <;> split <;> omega
        have m3 : (if HX < px then px else HX) = H1 := by rw [s3]; unfold mx; split <;> split <;> omega
        have m4 : (if HY < py then py else HY) = H2 := by rw [s4]; unfold mx; split <;> split <;> omega
        clear s1 s2 s3 s4
        go_wp2
        go_roundw
        case rel => exact ⟨k + 1, by omega, by go_num, by rw [E1.out, E2.out]; exact K1.out, by rw [E3.out, E4.out]; exact K2.out, K3.out, K4.out, K5.out, K6.out, K7.out⟩
        case measure => simp [intOf]; omega
      · obtain rfl : k = ps.length := by omega
        obtain ⟨l0, l1, l2, l3⟩ := bl.facts
        obtain ⟨q0, q1, q2, q3⟩ := bh.facts
        obtain ⟨u0, u1, u2, u3⟩ := b2.facts
        obtain ⟨v0, v1, v2, v3⟩ := b3.facts
        go_wp2_with fail
        obtain ⟨d2, gd2⟩ := b2.put (lx ps ps.length) (ly ps ps.length)
        have b3' := b3.keep gd2 (by simp)
        obtain ⟨d3, gd3⟩ := b3'.put (hx ps ps.length) (hy ps ps.length)
        obtain ⟨n0, n1, _, _⟩ := (d2.keep gd3 (by simp)).facts
        obtain ⟨o0, o1, _, _⟩ := d3.facts
        have gfin := (gb_new (gb_new hg gd2 (by intro g e; injection e with e; omega)) gd3 (by intro g e; injection e with e; omega)).trans (gb_drewN _ 1 none)
        have N0 := Lib.hid n0
        have N1 := Lib.hid n1
        have O0 := Lib.hid o0
        have O1 := Lib.hid o1
        have GF := Lib.hid gfin
        clear d2 gd2 b3' d3 gd3 n0 n1 o0 o1 gfin
        go_region
        all_goals
          go_wp2
          have n0 := N0.out
          have n1 := N1.out
          have o0 := O0.out
          have o1 := O1.out
          exact bodyPost_ret (v := .tuple #[.agg #[.int .i64 (lx ps ps.length), .int .i64 (ly ps ps.length)], .agg #[.int .i64 (hx ps ps.length), .int .i64 (hy ps ps.length)], .bool true]) (by simp [results, Try.results30, go_sem, n0, n1, o0, o1]) rfl ⟨rfl, GF.out⟩
  · have BLf : Bx W0 (w1.heap.size + 1) x0 y0 := HX0 _ (by omega)
    have BHf : Bx W0 (w1.heap.size) x0 y0 := HX0 _ (by omega)
    have hs0 : W0.heap.size = w1.heap.size + 2 := hW0s
    clear HB2 HB3 HC
    go_wp2_with fail
    go_loopw [22] (fun i wr => ∃ k : Nat, k ≤ ps.length ∧ i = .int .i64 k ∧ Bx wr (w1.heap.size + 1) (lx ps k) (ly ps k) ∧ Bx wr (w1.heap.size) (hx ps k) (hy ps k) ∧ Bx wr w.heap.size 0 0 ∧ Bx wr (w.heap.size + 1) 0 0 ∧ Rd wr B (some ad) (ps.length * 2) (pcell ps) ∧ w.grownBy wr none ∧ w1.heap.size + 2 ≤ wr.heap.size) (fun i _ => ps.length - (intOf i).toNat)
    case atStart => exact ⟨0, Nat.zero_le _, rfl, by rw [hl0, hl1]; exact BLf, by rw [hh0, hh1]; exact BHf, B2f, B3f, Rf, gf, by omega⟩
    case round =>
      obtain ⟨k, hk, rfl, bl, bh, b2, b3, rr, hg, hsz⟩ := hrel
      by_cases hlt : k < ps.length
      · obtain ⟨ad', e, _, c0, c1⟩ := Rd.pair rr hlt
        injection e with e; subst e
        have hk0 : (0 : Int) ≤ k := by omega
        have hk1 : (k : Int) < ps.length := by omega
        have sx := succs ps k hlt
        obtain ⟨s1, s2, s3, s4⟩ := sx
        obtain ⟨L1, hL1⟩ : ∃ L1, lx ps (k + 1) = L1 := ⟨_, rfl⟩
        obtain ⟨L2, hL2⟩ : ∃ L2, ly ps (k + 1) = L2 := ⟨_, rfl⟩
        obtain ⟨H1, hH1⟩ : ∃ H1, hx ps (k + 1) = H1 := ⟨_, rfl⟩
        obtain ⟨H2, hH2⟩ : ∃ H2, hy ps (k + 1) = H2 := ⟨_, rfl⟩
        have E1 := Lib.hid hL1
        have E2 := Lib.hid hL2
        have E3 := Lib.hid hH1
        have E4 := Lib.hid hH2
        rw [hL1] at s1
        rw [hL2] at s2
        rw [hH1] at s3
        rw [hH2] at s4
        clear hL1 hL2 hH1 hH2
        generalize lx ps k = LX at *
        generalize ly ps k = LY at *
        generalize hx ps k = HX at *
        generalize hy ps k = HY at *
        generalize ps[k].1 = px at *
        generalize ps[k].2 = py at *
        have gal := World.grownBy_alloc wr (.cells #[.int .i64 px, .int .i64 py] 49) none
        have bl1 := bl.keep gal (by simp)
        have bh1 := bh.keep gal (by simp)
        have b21 := b2.keep gal (by simp)
        have b31 := b3.keep gal (by simp)
        have bp1 := Bx.new wr px py
        have rr1 := rr.kept0 gal (by omega)
        have hg1' := hg.trans gal
        have nel : w1.heap.size + 1 ≠ wr.heap.size := by omega
        have neh : w1.heap.size ≠ wr.heap.size := by omega
        have hsz1 : w1.heap.size + 2 ≤ (wr.alloc (.cells #[.int .i64 px, .int .i64 py] 49)).heap.size := by simp; omega
        -- low
        obtain ⟨bl2, gl2⟩ := bl1.put L1 L2
        have bh2 := bh1.keep gl2 (by simp)
        have b22 := b21.keep gl2 (by simp; omega)
        have b32 := b31.keep gl2 (by simp; omega)
        have bp2 := bp1.keep gl2 (by simp; omega)
        have rr2 := rr1.kept gl2 (by omega) (fun b hb hbB e => by injection e with e; subst e; omega)
        -- high
        obtain ⟨bh3, gh3⟩ := bh2.put H1 H2
        have bl3 := bl2.keep gh3 (by simp)
        have b23 := b22.keep gh3 (by simp; omega)
        have b33 := b32.keep gh3 (by simp; omega)
        have rr3 := rr2.kept gh3 (by have := gl2.size; omega) (fun b hb hbB e => by injection e with e; subst e; omega)
        have g3 := gb_new (gb_new hg1' gl2 (by intro g e; injection e with e; omega)) gh3 (by intro g e; injection e with e; omega)
        have hsz3 := Nat.le_trans hsz1 (Nat.le_trans gl2.size gh3.size)
        obtain ⟨l0, l1, l2, l3⟩ := bl1.facts
        obtain ⟨p0, p1, _, _⟩ := bp1.facts
        obtain ⟨q0, q1, q2, q3⟩ := bh2.facts
        obtain ⟨r0, r1, _, _⟩ := bp2.facts
        have K1 := Lib.hid bl3
        have K2 := Lib.hid bh3
        have K3 := Lib.hid b23
        have K4 := Lib.hid b33
        have K5 := Lib.hid rr3
        have K6 := Lib.hid g3
        have K7 := Lib.hid hsz3
        clear bl bh b2 b3 rr hg bl1 bh1 b21 b31 bp1 rr1 hg1' bl2 gl2 bh2 b22 b32 bp2 rr2 bh3 gh3 bl3 b23 b33 rr3 g3 hsz3 hsz1 gal
        have m1 : (if px < LX then px else LX) = L1 := by rw [s1]; unfold mn; split <;> split <;> omega
        have m2 : (if py < LY then py else LY) = L2 := by rw [s2]; unfold mn; split <;> split <;> omega
        have m3 : (if HX < px then px else HX) = H1 := by rw [s3]; unfold mx; split <;> split <;> omega
        have m4 : (if HY < py then py else HY) = H2 := by rw [s4]; unfold mx; split <;> split <;> omega
        clear s1 s2 s3 s4
        go_wp2
        go_roundw
        case rel => exact ⟨k + 1, by omega, by go_num, by rw [E1.out, E2.out]; exact K1.out, by rw [E3.out, E4.out]; exact K2.out, K3.out, K4.out, K5.out, K6.out, K7.out⟩
        case measure => simp [intOf]; omega
      · obtain rfl : k = ps.length := by omega
        obtain ⟨l0, l1, l2, l3⟩ := bl.facts
        obtain ⟨q0, q1, q2, q3⟩ := bh.facts
        obtain ⟨u0, u1, u2, u3⟩ := b2.facts
        obtain ⟨v0, v1, v2, v3⟩ := b3.facts
        go_wp2_with fail
        obtain ⟨d2, gd2⟩ := b2.put (lx ps ps.length) (ly ps ps.length)
        have b3' := b3.keep gd2 (by simp)
        obtain ⟨d3, gd3⟩ := b3'.put (hx ps ps.length) (hy ps ps.length)
        obtain ⟨n0, n1, _, _⟩ := (d2.keep gd3 (by simp)).facts
        obtain ⟨o0, o1, _, _⟩ := d3.facts
        have gfin := (gb_new (gb_new hg gd2 (by intro g e; injection e with e; omega)) gd3 (by intro g e; injection e with e; omega)).trans (gb_drewN _ 1 none)
        have N0 := Lib.hid n0
        have N1 := Lib.hid n1
        have O0 := Lib.hid o0
        have O1 := Lib.hid o1
        have GF := Lib.hid gfin
        clear d2 gd2 b3' d3 gd3 n0 n1 o0 o1 gfin
        go_region
        all_goals
          go_wp2
          have n0 := N0.out
          have n1 := N1.out
          have o0 := O0.out
          have o1 := O1.out
          exact bodyPost_ret (v := .tuple #[.agg #[.int .i64 (lx ps ps.length), .int .i64 (ly ps ps.length)], .agg #[.int .i64 (hx ps ps.length), .int .i64 (hy ps ps.length)], .bool true]) (by simp [results, Try.results30, go_sem, n0, n1, o0, o1]) rfl ⟨rfl, GF.out⟩

end Go.Proofs.Ytdanlghaiekeaaa.box2
