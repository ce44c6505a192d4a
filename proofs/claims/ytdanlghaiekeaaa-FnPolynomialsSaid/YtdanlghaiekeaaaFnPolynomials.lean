/- For zeros of small integers, a polynomial is exactly 0 at its zeros, has the greatest number 1, and is the product of the polynomials of two parts of its zeros: the law answers true at every input. No condition. -/
import Derived.Test.YtdanlghaiekeaaaRows
import Derived.Test.YtdanlghaiekeaaaSlc
import Derived.Test.YtdanlghaiekeaaaSmall
import Derived.Test.YtdanlghaiekeaaaOpens
import Derived.Test.YtdanlghaiekeaaaFloats
import Derived.Test.YtdanlghaiekeaaaRound
import Derived.Test.YtdanlghaiekeaaaValues
import Derived.Test.YtdanlghaiekeaaaConv
import Derived.Test.YtdanlghaiekeaaaFWalk
import Derived.Test.YtdanlghaiekeaaaFinWalk
import Derived.Test.YtdanlghaiekeaaaFloat2
import Derived.Test.YtdanlghaiekeaaaFloat3
import Derived.Test.YtdanlghaiekeaaaPhase
import Derived.Test.YtdanlghaiekeaaaSine
import Derived.Test.YtdanlghaiekeaaaPhasor
import Derived.Test.YtdanlghaiekeaaaListC
import Derived.Test.YtdanlghaiekeaaaSteerNum
import Derived.Test.YtdanlghaiekeaaaSineIn
import Derived.Test.YtdanlghaiekeaaaPolyNum
import Derived.Test.YtdanlghaiekeaaaPolyW
import Derived.Test.YtdanlghaiekeaaaPoly1
import Derived.Test.YtdanlghaiekeaaaPoly2
import Derived.Test.YtdanlghaiekeaaaConcatC
import Derived.Test.YtdanlghaiekeaaaPolyA
import Derived.Test.YtdanlghaiekeaaaPolyB
import Derived.Test.YtdanlghaiekeaaaPolyC
import Derived.Test.YtdanlghaiekeaaaGPoly
import Derived.Test.YtdanlghaiekeaaaGNum
import Derived.Test.YtdanlghaiekeaaaGVal
import Derived.Test.YtdanlghaiekeaaaR8
import Derived.Test.YtdanlghaiekeaaaSrc
import Derived.Test.YtdanlghaiekeaaaSrcW
import Derived.WalkKit
import Derived.ProofKit
import Derived.OpenShut
import Derived.ShutString
import Derived.ChangeOld
import Derived.Below
import Derived.Lib.Hide
import Derived.BigQuiet
import Derived.Deep.QuietTactic
import Derived.WalkLawsBesides
import Derived.Outline
import Derived.Deep.LoopGhost
import Derived.Deep.RegionHeld3
import Derived.Laws.ComplexArith
namespace Go.Proofs.Ytdanlghaiekeaaa.fnPolynomials
open Go.ChangeShapes Go.WideShapes Go.ChangeAt Go.RowKit
open Go.ChangeMaps (open_string shut_string)
set_option linter.unusedVariables false
theorem own : ownKnob Try.prog.godebug = none := by kernel_rfl
theorem laidOut : laidOutB Try.prog = true := by kernel_rfl
open Go Ieee Go.RowKit
open Go.Proofs.Ytdanlghaiekeaaa.slc Go.Proofs.Ytdanlghaiekeaaa.small Go.Proofs.Ytdanlghaiekeaaa.opens Go.Proofs.Ytdanlghaiekeaaa.floats Go.Proofs.Ytdanlghaiekeaaa.values Go.Proofs.Ytdanlghaiekeaaa.listC Go.Proofs.Ytdanlghaiekeaaa.polyNum Go.Proofs.Ytdanlghaiekeaaa.polyW Go.Proofs.Ytdanlghaiekeaaa.poly1 Go.Proofs.Ytdanlghaiekeaaa.poly2 Go.Proofs.Ytdanlghaiekeaaa.polyB Go.Proofs.Ytdanlghaiekeaaa.polyC Go.Proofs.Ytdanlghaiekeaaa.gPoly Go.Proofs.Ytdanlghaiekeaaa.gNum Go.Proofs.Ytdanlghaiekeaaa.gVal Go.Proofs.Ytdanlghaiekeaaa.r8 Go.Proofs.Ytdanlghaiekeaaa.src Go.Proofs.Ytdanlghaiekeaaa.srcW

/-- The address of a slice's end part. -/
def sl (A : Option Addr) (c k : Nat) : Option Addr := if c = k then A else A.map (·.add k)
theorem cut_h (A : Option Addr) (n c k : Nat) (w : World) (h : k ≤ c) : (Instr.sliceAt 24 (.slice A n c) none (some (.int .i64 k)) none).run Try.prog w = .ok (.slice A k c) w := by
  have h0 : (0 : Int) ≤ k := by omega
  have h1 : (k : Int) ≤ c := by omega
  have hsz : ∀ w, (sizeOf 30).run Try.prog w = .ok 1 w := fun w => Try.sizeOf30 w
  have ha : (if c = 0 then A else A.map fun x => x.add (0 * 1)) = A := by
    split
    · rfl
    · cases A <;> rfl
  simp [Instr.sliceAt, run_underlying Try.underlying24, Instr.slice, Instr.sliceBounds, hsz, go_sem, h1, h0]
theorem add_sum (a : Addr) (j k : Nat) : (a.add k).add j = a.add (k + j) := by
  unfold Addr.add; grind
theorem rd_end {w : World} {B n c k : Nat} {A : Option Addr} {f g : Nat → Value} (h : Rd w B A n f) (hk : k ≤ n) (hc : n ≤ c) (hg : ∀ j, j < n - k → f (k + j) = g j) : Rd w B (sl A c k) (n - k) g := fun h0 => by
  obtain ⟨ad, rfl, hb, hj⟩ := h (by omega)
  refine ⟨ad.add k, by unfold sl; rw [if_neg (by omega)]; rfl, by rw [add_block]; exact hb, fun j hjn => ?_⟩
  rw [add_sum, hj _ (by omega), hg j hjn]
theorem take_cell (l : List (Nat × Nat)) (k j : Nat) (h : j < k) : ccell (l.take k) j = ccell l j := by
  unfold ccell; simp [List.getD, h]
theorem drop_cell (l : List (Nat × Nat)) (k j : Nat) : ccell l (k + j) = ccell (l.drop k) j := by
  unfold ccell; simp [List.getD]
theorem small_take {zs : List G} (h : ∀ x ∈ zs, Small2 x) (k : Nat) : ∀ x ∈ zs.take k, Small2 x := fun x hx => h x (List.mem_of_mem_take hx)
theorem small_drop {zs : List G} (h : ∀ x ∈ zs, Small2 x) (k : Nat) : ∀ x ∈ zs.drop k, Small2 x := fun x hx => h x (List.mem_of_mem_drop hx)
theorem gw_getD (zs : List G) (k : Nat) (h : k < zs.length) : (zs.map gw).getD k (0, 0) = gw zs[k] := by simp [List.getD, h]
theorem gw_cb {zs : List G} (h : ∀ x ∈ zs, Small2 x) : ∀ k, k < (zs.map gw).length → Cb ((zs.map gw).getD k (0, 0)) 5 := fun k hk => by
  rw [List.length_map] at hk
  rw [gw_getD zs k hk]
  exact (gw_ok (h _ (List.getElem_mem hk))).cb (Nat.le_trans (sm_N (h _ (List.getElem_mem hk))) (by decide))
/-- The polynomial of zeros, by the program. -/
theorem poly_is (A : Option Addr) (c B : Nat) (zs : List G) (w : World) (hz : ∀ x ∈ zs, Small2 x) (hn : zs.length ≤ 5) (hr : Rd w B A zs.length (ccell (zs.map gw))) (hB : B ≤ w.heap.size) :
    Calls Try.prog 17 #[.slice A zs.length c] w fun e w' => ∃ A' c', e = .returned (.tuple #[.slice A' (zs.length + 1) c', .bool true]) ∧ w'.ownsRow w.heap.size 30 1 (.slice A' (zs.length + 1) c') (zs.length + 1) (lst (ccell (pol (zs.map gw))) (zs.length + 1)) ∧ w.grownBy w' none := by
  have := poly_impl A c B (zs.map gw) w (by simp; omega) (gw_cb hz) (by simpa using hr) hB
  simpa using this
theorem pow_le5 {n : Nat} (h : n ≤ 5) : 5 ^ n ≤ 3125 := Nat.pow_le_pow_right (n := 5) (by omega) h
theorem sub_N {a b : G} (ha : Small2 a) (hb : Small2 b) : gN (gs a b) ≤ 8 := by
  unfold Small2 at ha hb; unfold gN gs; dsimp only; omega
theorem own_N (u : G) (hu : Small2 u) (zs : List G) (hz : ∀ x ∈ zs, Small2 x) (hn : zs.length ≤ 5) (j : Nat) (hj : j ≤ zs.length) : gN (gown u (zs.take j)) ≤ 32768 := by
  have h := gown_N (C := 8) u (zs.take j) (fun w hw => sub_N hu (hz w (List.mem_of_mem_take hw)))
  have hl : (zs.take j).length ≤ 5 := by simp; omega
  exact Nat.le_trans h (Nat.pow_le_pow_right (n := 8) (by omega) hl)
theorem r8_one (A : Option Addr) (c n k : Nat) (w : World) : Calls Try.prog 16 #[.slice A n c, .int .i64 k, .int .i64 1] w fun e w' => e = .returned (.int .i64 0) ∧ w = w' := by
  go_enter Try.func16, Try.ntmps16
  go_wp2
  go_ret
  exact ⟨rfl, rfl⟩
/-- A number up to n. -/
theorem r8_upto (A : Option Addr) (c B : Nat) (z : List Int) (k n : Nat) (w : World) (hm : z.length ≤ 1048576) (hn : n ≤ 1000) (hz : Byt z) (hr : Rd w B A z.length (bt z)) :
    ∃ v : Nat, v ≤ n ∧ Calls Try.prog 16 #[.slice A z.length c, .int .i64 k, .int .i64 ((n : Int) + 1)] w fun e w' => e = .returned (.int .i64 v) ∧ w = w' := by
  by_cases h0 : n = 0
  · subst h0
    exact ⟨0, Nat.le_refl _, r8_one A c _ k w⟩
  · obtain ⟨b1, b2⟩ := r8_bd hz k ((n : Int) + 1) (by omega)
    refine ⟨(r8 z k ((n : Int) + 1)).toNat, by omega, ?_⟩
    rw [Int.toNat_of_nonneg b1]
    exact r8_at A c B z k ((n : Int) + 1) w hm (by omega) (by omega) hz hr

attribute [local go_sem] cut_h
set_option maxHeartbeats 8000000 in
set_option maxRecDepth 100000 in
theorem law (A A' : Option Addr) (c d : Nat) (z y : List Int) (w : World) (hz : Byt z) (hy : Byt y) (hm : z.length ≤ 9223372036854775807) (hmy : y.length ≤ 9223372036854775807) (hr : Rd w w.heap.size A z.length (bt z)) (hr' : Rd w w.heap.size A' y.length (bt y)) :
    Calls Try.prog 3 #[.slice A z.length c, .slice A' y.length d] w fun e w' => e = .returned (.bool true) ∧ Below w.heap.size w w' := by
  by_cases hl : z.length ≤ 48 ∧ y.length ≤ 48
  · obtain ⟨b1, b2⟩ := r8_bd hy 40 6 (by decide)
    have H1 := r8_at A' d w.heap.size y 40 6 w (by omega) (by decide) (by decide) hy hr'
    obtain ⟨n, hn⟩ : ∃ n : Nat, r8 y (40 : Nat) 6 = n := ⟨(r8 y (40 : Nat) 6).toNat, by rw [show ((40 : Nat) : Int) = 40 from rfl]; omega⟩
    rw [hn] at H1
    have hn5 : n ≤ 5 := by rw [show ((40 : Nat) : Int) = 40 from rfl] at hn; omega
    rw [show ((40 : Nat) : Int) = 40 from rfl] at H1
    clear hn b1 b2
    have HZ := Lib.hid hz
    have HY := Lib.hid hy
    clear hz hy
    go_enter Try.func3, Try.ntmps3
    go_wp2_with fail
    refine (long_no _ _ _ _ _ _ _ hl.1 hl.2).mono ?_
    rintro e w' ⟨rfl, rfl⟩
    go_wp2_with fail
    refine H1.mono ?_
    rintro e w' ⟨rfl, rfl⟩
    clear H1
    go_wp2_with fail
    refine (whole_is A c z n w (by omega) (by omega) HZ.out hr).mono ?_
    rintro e w1 ⟨zs, A1, c1, hzl, hzs, rfl, o1, g1⟩
    have R1 := Rd.of_lst o1 (Nat.mul_one _).symm
    obtain ⟨q1, q2⟩ := own_le o1
    clear o1
    have hry := hr'.kept0 g1 (Nat.le_refl _)
    obtain ⟨k, hk, H2⟩ := r8_upto A' d w.heap.size y 41 n w1 (by omega) (by omega) HY.out hry
    rw [show ((41 : Nat) : Int) = 41 from rfl] at H2
    have HR1 := Lib.hid R1
    have HZS := Lib.hid hzs
    clear R1 hzs
    go_wp2_with fail
    refine H2.mono ?_
    rintro e w' ⟨rfl, rfl⟩
    clear H2
    subst hzl
    have HP := fun B (w : World) => poly_is A1 c1 B zs w HZS.out hn5
    go_wp2_with fail
    refine (HP _ w1 HR1.out (Nat.le_refl _)).mono ?_
    rintro e w2 ⟨A2, c2, rfl, o2, g2⟩
    have hk1 : (zs.take k).length = k := by simp; omega
    have hk2 : (zs.drop k).length = zs.length - k := by simp
    have hRt : Rd w2 w1.heap.size A1 (zs.take k).length (ccell ((zs.take k).map gw)) := by
      rw [hk1]
      refine (rd_le (HR1.out.kept0 g2 (Nat.le_refl _)) hk).congr fun j hj => ?_
      rw [List.map_take, take_cell _ _ _ hj]
    have hPt := poly_is A1 c1 w1.heap.size (zs.take k) w2 (small_take HZS.out k) (by omega) hRt g2.size
    rw [hk1] at hPt
    have HPT := Lib.hid hPt
    clear HP hRt hPt
    have R2 := (Rd.of_lst o2 (Nat.mul_one _).symm)
    have HR2 := Lib.hid R2
    clear R2 o2
    go_wp2_with fail
    refine HPT.out.mono ?_
    rintro e w3 ⟨A3, c3, rfl, o3, g3⟩
    clear HPT
    have HR3 := Lib.hid (Rd.of_lst o3 (Nat.mul_one _).symm)
    clear o3
    have hRd : Rd w3 w1.heap.size (sl A1 c1 k) (zs.drop k).length (ccell ((zs.drop k).map gw)) := by
      rw [hk2]
      refine rd_end (HR1.out.kept0 (g2.trans g3) (Nat.le_refl _)) hk q1 fun j hj => ?_
      rw [List.map_drop, drop_cell]
    have hPd := poly_is (sl A1 c1 k) (c1 - k) w1.heap.size (zs.drop k) w3 (small_drop HZS.out k) (by omega) hRd (g2.trans g3).size
    rw [hk2] at hPd
    have hAx : ∃ Ax, (if c1 = k then A1 else Option.map (fun x => x.add k) A1) = Ax := ⟨_, rfl⟩
    obtain ⟨Ax, hAx⟩ := hAx
    rw [show sl A1 c1 k = Ax from hAx] at hPd
    have HPD := Lib.hid hPd
    clear hRd hPd
    go_wp2_with fail
    clear hAx
    refine HPD.out.mono ?_
    rintro e w4 ⟨A4, c4, rfl, o4, g4⟩
    clear HPD
    have HR4 := Lib.hid (Rd.of_lst o4 (Nat.mul_one _).symm)
    clear o4
    have hab : 5 ^ k * 5 ^ (zs.length - k) ≤ 3125 := by rw [← Nat.pow_add, show k + (zs.length - k) = zs.length by omega]; exact pow_le5 hn5
    have hmul := mulp_impl A3 A4 c3 c4 w4.heap.size (pol ((zs.take k).map gw)) (pol ((zs.drop k).map gw)) (gpol (zs.take k)) (gpol (zs.drop k)) k (zs.length - k) (5 ^ k) (5 ^ (zs.length - k)) w4
      (by rw [pol_len1, List.length_map, hk1]) (by rw [pol_len1, List.length_map, hk2]) (pol_pg _ (small_take HZS.out k) (by omega)) (pol_pg _ (small_drop HZS.out k) (by omega))
      (fun j => by have := gpol_5 _ (small_take HZS.out k) j; rwa [hk1] at this) (fun j => by have := gpol_5 _ (small_drop HZS.out k) j; rwa [hk2] at this) hab (pow_le5 (by omega)) (pow_le5 (by omega)) (by omega) (Nat.le_refl _)
      ((HR3.out.kept0 g4 (Nat.le_refl _)).mono g4.size) HR4.out
    rw [show k + (zs.length - k) + 1 = zs.length + 1 by omega] at hmul
    have HMU := Lib.hid hmul
    clear hmul hab HR3 HR4
    go_wp2_with fail
    refine HMU.out.mono ?_
    rintro e w5 ⟨cl, A5, c5, rfl, hcl, hcp, o5, g5⟩
    clear HMU
    rw [show gcv (gpol (zs.take k)) (gpol (zs.drop k)) (k + 1) = gpol zs from funext fun t => gpol_take zs k t hk] at hcp
    have HR5 := Lib.hid (Rd.of_lst o5 (Nat.mul_one _).symm)
    have HCP := Lib.hid hcp
    have HPP := Lib.hid (pol_pg zs HZS.out hn5)
    clear o5 hcp
    have g25 := (g3.trans g4).trans g5
    have hR2 := HR2.out.kept0 g25 (Nat.le_refl _)
    obtain ⟨ad2, rfl, _, hc2⟩ := hR2.at_ (show zs.length < zs.length + 1 by omega)
    have htop := HPP.out zs.length
    rw [gpol_top] at htop
    have ht1 : (FloatKind.f32.format.order ((pol (zs.map gw)).getD zs.length (0, 0)).1 1065353216 == some .eq) = true := by rw [order_s htop.1 S32.one]; rfl
    have ht2 : (FloatKind.f32.format.order ((pol (zs.map gw)).getD zs.length (0, 0)).2 0 == some .eq) = true := by rw [order_s htop.2 S32.zero]; rfl
    unfold ccell at hc2
    have i0 : (0 : Int) ≤ (zs.length : Int) + 1 - 1 := by omega
    have i1 : (zs.length : Int) + 1 - 1 < (zs.length : Int) + 1 := by omega
    have i2 : ((zs.length : Int) + 1 - 1).toNat = zs.length := by omega
    have e1 : ((zs.length + 1 : Nat) : Int) = (zs.length : Int) + 1 := by omega
    clear htop hR2
    have htt : ∃ t, (pol (zs.map gw)).getD zs.length (0, 0) = t := ⟨_, rfl⟩
    obtain ⟨t, htt⟩ := htt
    rw [htt] at ht1 ht2 hc2
    clear htt
    go_wp2_with fail
    clear hc2 ht1 ht2 i0 i1 i2
    go_loopw [15] (fun i wr => ∃ j : Nat, j ≤ zs.length + 1 ∧ i = .int .i64 j ∧ w5.grownBy wr none) (fun i _ => zs.length + 1 - (intOf i).toNat)
    case atStart => exact ⟨0, Nat.zero_le _, rfl, World.grownBy.refl _ _⟩
    case round =>
      obtain ⟨j, hj, rfl, hg⟩ := hrel
      by_cases hjt : j < zs.length + 1
      · obtain ⟨adp, e, _, hp⟩ := (HR2.out.kept0 (g25.trans hg) (Nat.le_refl _)).at_ hjt
        injection e with e; subst e
        obtain ⟨adc, rfl, _, hc⟩ := (HR5.out.kept0 hg (Nat.le_refl _)).at_ hjt
        have G1 := HPP.out j
        have G2 := HCP.out j
        have t1 := order_s G1.1 G2.1
        have t2 := order_s G1.2 G2.2
        simp only [decide_true] at t1 t2
        unfold ccell at hp hc
        clear G1 G2
        generalize (pol (zs.map gw)).getD j (0, 0) = x1 at *
        generalize cl.getD j (0, 0) = x2 at *
        have j0 : (0 : Int) ≤ j := by omega
        have j1 : (j : Int) < (zs.length : Int) + 1 := by omega
        have hfin := fun n => hg.trans (gb_drewN wr n none)
        go_wp2_with fail
        go_quiet (fail)
        have hfin := hfin nq
        clear hp hc hg
        generalize wr.drewN nq = wd at *
        go_wp2_with fail
        go_roundw
        case rel => exact ⟨j + 1, by omega, by go_num, hfin⟩
        case measure => simp [intOf]; omega
      · have hj3 : (zs.length : Int) + 1 ≤ j := by omega
        clear hjt hj
        go_wp2_with fail
        clear hj3
        have HVAL := Lib.hid (fun (u : Nat × Nat) (g : G) (hu : Gi u g) (hg : gN g ≤ 4) (wx : World) (hx : w2.grownBy wx none) => val_impl (some ad2) c2 w2.heap.size (pol (zs.map gw)) (gpol zs) zs.length u g wx (by rw [pol_len1, List.length_map]) HPP.out hu (fun k => Nat.le_trans (gpol_5 zs HZS.out k) (pow_le5 hn5)) hg hn5 hx.size (HR2.out.kept0 hx (Nat.le_refl _)))
        obtain ⟨wa, hwa⟩ : ∃ wa, wa = wr := ⟨_, rfl⟩
        subst hwa
        go_loopw [16, 17] (fun i _ wq => ∃ j : Nat, j ≤ zs.length ∧ i = .int .i64 j ∧ wa.grownBy wq none) (fun i _ _ => zs.length - (intOf i).toNat)
        case atStart => exact ⟨0, Nat.zero_le _, rfl, World.grownBy.refl _ _⟩
        case round =>
          obtain ⟨j, hj, rfl, hq⟩ := hrel
          have hx := (g25.trans hg).trans hq
          by_cases hjt : j < zs.length
          · obtain ⟨adz, rfl, _, hz⟩ := ((HR1.out.kept0 g2 (Nat.le_refl _)).kept0 hx g2.size).at_ hjt
            have hsm := HZS.out _ (List.getElem_mem hjt)
            have hv := HVAL.out _ _ (gw_ok hsm) (sm_N hsm) _ hx
            rw [gval', gown_at zs j hjt] at hv
            have HV := Lib.hid hv
            unfold ccell at hz
            rw [gw_getD zs j hjt] at hz
            clear hv hsm
            generalize gw zs[j] = u at *
            have j0 : (0 : Int) ≤ j := by omega
            have j1 : (j : Int) < (zs.length : Int) := by omega
            go_wp2_with fail
            refine HV.out.mono ?_
            rintro e w7 ⟨v, rfl, gv, g7⟩
            have t1 : (FloatKind.f32.format.order v.1 0 == some .eq) = true := by rw [order_s gv.1 S32.zero]; rfl
            have t2 : (FloatKind.f32.format.order v.2 0 == some .eq) = true := by rw [order_s gv.2 S32.zero]; rfl
            clear gv HV
            have hfin := hq.trans g7
            go_wp2_with fail
            go_roundw
            case rel => exact ⟨j + 1, by omega, by go_num, hfin⟩
            case measure => simp [intOf]; omega
          · obtain rfl : j = zs.length := by omega
            obtain ⟨wb, hwb⟩ : ∃ wb, wb = wr := ⟨_, rfl⟩
            subst hwb
            have hy6 := hry.kept0 ((g2.trans hx)) g1.size
            have hw1 := whole_is A' d y 1 wb (by decide) (by omega) HY.out (hy6.mono (Nat.le_trans g1.size (g2.trans hx).size))
            have HW1 := Lib.hid hw1
            clear hw1 hy6
            go_wp2_with fail
            refine HW1.out.mono ?_
            rintro e w7 ⟨z1, A7, c7, hz1, hzs1, rfl, o7, g7⟩
            clear HW1
            obtain ⟨u, rfl⟩ : ∃ u, z1 = [u] := by
              match z1, hz1 with
              | [u], _ => exact ⟨u, rfl⟩
            have hu : Small2 u := hzs1 u (List.mem_singleton.2 rfl)
            obtain ⟨ad7, rfl, _, h7⟩ := (Rd.of_lst o7 (Nat.mul_one _).symm).at_ (show 0 < 1 by omega)
            have h7' : w7.cell? ad7 = some (.complex .f32 (gw u).1 (gw u).2) := h7
            clear o7 hzs1 h7
            have hx7 := hx.trans g7
            have hv := HVAL.out _ _ (gw_ok hu) (sm_N hu) _ hx7
            rw [gval'] at hv
            have HV := Lib.hid hv
            have HGU := Lib.hid (gw_ok hu)
            clear hv
            generalize gw u = q at *
            go_wp2_with fail
            refine HV.out.mono ?_
            rintro e w8 ⟨v, rfl, gv, g8⟩
            clear HV
            have HGV := Lib.hid gv
            have hR18 := (HR1.out.kept0 g2 (Nat.le_refl _)).kept0 (hx7.trans g8) g2.size
            have HR18 := Lib.hid hR18
            clear gv hR18 h7'
            go_wp2_with fail
            go_loopw [22, 23] (fun o i wq => ∃ (j : Nat) (x : Nat × Nat), j ≤ zs.length ∧ i = .int .i64 j ∧ o = .complex .f32 x.1 x.2 ∧ Gi x (gown u (zs.take j)) ∧ w8.grownBy wq none) (fun _ i _ => zs.length - (intOf i).toNat)
            case atStart => exact ⟨0, (1065353216, 0), Nat.zero_le _, rfl, rfl, Gi.one, World.grownBy.refl _ _⟩
            case round =>
              obtain ⟨j, x, hj, rfl, rfl, hgx, h8⟩ := hrel
              by_cases hjt : j < zs.length
              · obtain ⟨adz, e, _, hz⟩ := (HR18.out.kept0 h8 (g2.trans (hx7.trans g8)).size).at_ hjt
                unfold ccell at hz
                rw [gw_getD zs j hjt] at hz
                have hsm := HZS.out _ (List.getElem_mem hjt)
                obtain ⟨s1, s2, s3⟩ := sub_g HGU.out (gw_ok hsm) (Nat.lt_of_le_of_lt (sub_N hu hsm) (by decide))
                have b1 := own_N u hu zs HZS.out hn5 j hj
                have b2 := sub_N hu hsm
                obtain ⟨m1, m2⟩ := mul_g hgx s3 (by omega) (by omega) (Nat.lt_of_le_of_lt (Nat.mul_le_mul b1 b2) (by decide))
                rw [← gown_snoc, ← take_snoc zs j hjt] at m2
                have HM2 := Lib.hid m2
                have hcs := csub s1 s2
                have HMU := Lib.hid (fun w => mul_impl m1 w)
                clear s1 s2 s3 m1 m2 b1 b2 hsm hgx
                generalize mulw x (subw q (gw zs[j])) = r at *
                generalize subw q (gw zs[j]) = v2 at *
                generalize gw zs[j] = v3 at *
                have j0 : (0 : Int) ≤ j := by omega
                have j1 : (j : Int) < (zs.length : Int) := by omega
                subst e
                go_wp2_with fail
                refine (HMU.out _).mono ?_
                rintro e w9 ⟨rfl, rfl⟩
                go_wp2_with fail
                go_roundw
                case rel => exact ⟨j + 1, r, by omega, by go_num, rfl, HM2.out, h8⟩
                case measure => simp [intOf]; omega
              · obtain rfl : j = zs.length := by omega
                rw [List.take_length] at hgx
                have t1 := order_s HGV.out.1 hgx.1
                have t2 := order_s HGV.out.2 hgx.2
                simp only [decide_true] at t1 t2
                have gend := ((g1.trans g2).trans (hx7.trans g8)).trans h8
                clear hgx HGV
                go_wp2_with fail
                go_ret
                exact ⟨rfl, gb_below gend⟩
  · have hl' : 48 < z.length ∨ 48 < y.length := by omega
    go_enter Try.func3, Try.ntmps3
    go_wp2_with fail
    refine (long_yes _ _ _ _ _ _ _ hl' hm hmy).mono ?_
    rintro e w' ⟨rfl, rfl⟩
    go_wp2_with fail
    go_ret
    exact ⟨rfl, Below.refl _ _⟩

theorem walk (a0 : Option Addr) (len0 cap0 : Nat) (z0 : List Int) (a1 : Option Addr) (len1 cap1 : Nat) (z1 : List Int) (w : World) (l0 : z0.length = len0) (m0 : len0 ≤ maxLen) (w0 : ∀ x ∈ z0, (Lit.int .u8 x).wf = true) (r0 : Rd w w.heap.size a0 len0 (fun j => .int .u8 (z0.getD j 0)))
    (l1 : z1.length = len1) (m1 : len1 ≤ maxLen) (w1 : ∀ x ∈ z1, (Lit.int .u8 x).wf = true) (r1 : Rd w w.heap.size a1 len1 (fun j => .int .u8 (z1.getD j 0))) :
    Calls Try.prog 3 #[.slice a0 len0 cap0, .slice a1 len1 cap1] w fun e w' => e = .returned (.bool true) ∧ Below w.heap.size w w' := by
  subst l0 l1
  unfold maxLen at m0 m1
  exact law a0 a1 cap0 cap1 z0 z1 w (Byt.of w0) (Byt.of w1) (by omega) (by omega) r0 r1

set_option maxRecDepth 100000 in
theorem lifted (os : Os) (started : os.Started) (H : Type) (enc : TypeId × Value → H) :
    ReturnsInHanded {} Try.checked os 3 .any (Rows.fnPolynomialsSpec.pre6 enc Try.prog Try.f3 Rows.fnPolynomialsRow.domain false) (Rows.fnPolynomialsSpec.post enc Try.prog Try.f3 false true false false) := by
  refine returnsInHanded_of_change (C := Try.checked) own started (by kernel_rfl) Try.func3
    (ChangeSpec.witness6 (enc := enc) (C := Try.checked) false ⟨#[], #[.slice none 0 0, .slice none 0 0], []⟩ 8 (by kernel_rfl) (by kernel_rfl) (by kernel_rfl) (by kernel_rfl)) ?_
  intro W base args ds gs before hval0 hW hcnd _
  have hval : ∀ (j : Nat) t v, Try.f3.params[j]? = some t → args[j]? = some v → Value.okWide Try.prog W .any base t v := hval0
  have hW' := hW
  obtain ⟨p, q, hA0, hV, rfl, hfz, hnd⟩ := hW
  have hA : DataW.TrodAll enc Try.prog W 0 (fun _ => true) true Try.f3.params.toList args.toList ds p := hA0
  rw [Try.params3] at hA hval
  obtain ⟨v0, vs0, d0, ds0, p0, q0, hargs, rfl, rfl, h0, r0⟩ := trodAll_cons hA
  obtain ⟨v1, vs1, d1, ds1, p1, q1, rfl, rfl, rfl, h1, r1⟩ := trodAll_cons r0
  obtain ⟨rfl, rfl, rfl⟩ := trodAll_nil r1
  obtain rfl : args = #[v0, v1] := by cases args; simp_all
  obtain ⟨rfl, rfl⟩ := trodVars_none hV
  obtain ⟨a0, len0, cap0, rfl⟩ := okWide_slice Try.underlying22 (hval 0 22 v0 rfl rfl)
  have k0 := h0
  have lt0 : ∀ x ∈ p0, x.block < W.heap.size := by obtain ⟨m, hm⟩ := k0; exact DataW.trod_lt m _ _ _ hm
  obtain ⟨z0, l0, m0, w0, r0'⟩ := opened_ints Try.underlying22 Try.underlying5 (by kernel_rfl) k0
  obtain ⟨a1, len1, cap1, rfl⟩ := okWide_slice Try.underlying22 (hval 1 22 v1 rfl rfl)
  have k1 := h1
  have lt1 : ∀ x ∈ p1, x.block < W.heap.size := by obtain ⟨m, hm⟩ := k1; exact DataW.trod_lt m _ _ _ hm
  obtain ⟨z1, l1, m1, w1, r1'⟩ := opened_ints Try.underlying22 Try.underlying5 (by kernel_rfl) k1
  clear hA0 hval0
  refine (walk a0 len0 cap0 z0 a1 len1 cap1 z1 W l0 m0 w0 r0' l1 m1 w1 r1').mono fun e W' ⟨he, bel⟩ => ?_
  subst he
  exact ⟨_, rfl, _, _, _, [], _, [], hW', trodAll_mk1 (shut_bool Try.underlying4 _), (trodAll_cons_mk (Below.trod laidOut (by kernel_rfl) (of_decide_eq_true (by kernel_rfl)) k0 bel lt0) (trodAll_cons_mk (Below.trod laidOut (by kernel_rfl) (of_decide_eq_true (by kernel_rfl)) k1 bel lt1) trodAll_mk0)), rfl, bel.frame _, fun h => by cases h⟩

theorem over : Rows.fnPolynomialsRow.holds Try.pinned (OpenSpec.ofChange Rows.fnPolynomialsSpec) :=
  OpenClaim.holds_of_wide 3 Try.f3 rfl rfl rfl rfl rfl rfl rfl ⟨rfl, rfl, rfl, rfl, rfl⟩ rfl rfl rfl rfl rfl (by kernel_rfl) Try.func3 (by kernel_rfl)
    (of_decide_eq_true (by kernel_rfl)) (by unfold Func.isWrapper; first | (rw [if_pos (by decide +kernel)]; kernel_rfl) | (rw [if_neg (by decide +kernel)]; exact ⟨rfl, rfl⟩))
    (fun os started H enc _ => lifted os started H enc)

theorem proved : Rows.FnPolynomialsSaid := over
#print axioms proved
end Go.Proofs.Ytdanlghaiekeaaa.fnPolynomials
