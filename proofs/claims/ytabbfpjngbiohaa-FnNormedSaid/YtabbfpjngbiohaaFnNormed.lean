/- Normed weights in sixteenths have nearly the power 1, unless all are zeros, and without elements these are zeros and the others as they were: the law answers true at every input. No condition. -/
import Derived.Test.YtabbfpjngbiohaaRows
import Derived.Test.YtabbfpjngbiohaaSlc
import Derived.Test.YtabbfpjngbiohaaSmall
import Derived.Test.YtabbfpjngbiohaaOpens
import Derived.Test.YtabbfpjngbiohaaR8
import Derived.Test.YtabbfpjngbiohaaSrc
import Derived.Test.YtabbfpjngbiohaaFloats
import Derived.Test.YtabbfpjngbiohaaRound
import Derived.Test.YtabbfpjngbiohaaValues
import Derived.Test.YtabbfpjngbiohaaConv
import Derived.Test.YtabbfpjngbiohaaFWalk
import Derived.Test.YtabbfpjngbiohaaFinWalk
import Derived.Test.YtabbfpjngbiohaaFloat2
import Derived.Test.YtabbfpjngbiohaaFloat3
import Derived.Test.YtabbfpjngbiohaaPhase
import Derived.Test.YtabbfpjngbiohaaSine
import Derived.Test.YtabbfpjngbiohaaPhasor
import Derived.Test.YtabbfpjngbiohaaBits
import Derived.Test.YtabbfpjngbiohaaListC
import Derived.Test.YtabbfpjngbiohaaSteerNum
import Derived.Test.YtabbfpjngbiohaaSineIn
import Derived.Test.YtabbfpjngbiohaaPolyNum
import Derived.Test.YtabbfpjngbiohaaPolyW
import Derived.Test.YtabbfpjngbiohaaPoly1
import Derived.Test.YtabbfpjngbiohaaListCC
import Derived.Test.YtabbfpjngbiohaaPoly2
import Derived.Test.YtabbfpjngbiohaaGPoly
import Derived.Test.YtabbfpjngbiohaaGNum
import Derived.Test.YtabbfpjngbiohaaSrcW
import Derived.Test.YtabbfpjngbiohaaRq
import Derived.Test.YtabbfpjngbiohaaRoot
import Derived.Test.YtabbfpjngbiohaaPowW
import Derived.Test.YtabbfpjngbiohaaRootN
import Derived.Test.YtabbfpjngbiohaaQuoN
import Derived.Test.YtabbfpjngbiohaaFine
import Derived.Test.YtabbfpjngbiohaaFineN
import Derived.Test.YtabbfpjngbiohaaNormQ
import Derived.Test.YtabbfpjngbiohaaNormNum
import Derived.Test.YtabbfpjngbiohaaNormSum
import Derived.Test.YtabbfpjngbiohaaNormP
import Derived.Test.YtabbfpjngbiohaaFinBoth
import Derived.Test.YtabbfpjngbiohaaNormW
import Derived.Test.YtabbfpjngbiohaaWithoutN
import Derived.Test.YtabbfpjngbiohaaWithoutP
import Derived.Test.YtabbfpjngbiohaaFailL
import Derived.Test.YtabbfpjngbiohaaGap
import Derived.Test.YtabbfpjngbiohaaGapR
import Derived.Test.YtabbfpjngbiohaaNormF
import Derived.Test.YtabbfpjngbiohaaSameC
import Derived.WalkKit
import Derived.ProofKit
import Derived.OpenShut
import Derived.ShutString
import Derived.ChangeOld
import Derived.Below
import Derived.Lib.Hide
import Derived.BigQuiet
import Derived.Deep.QuietTactic
import Derived.WalkLawsBesides
import Derived.Outline
import Derived.Deep.LoopGhost
import Derived.Deep.RegionHeld3
import Derived.Laws.ComplexArith
import Derived.Conc.Holds
namespace Go.Proofs.Ytabbfpjngbiohaa.fnNormed
open Go.ChangeShapes Go.WideShapes Go.ChangeAt Go.RowKit
open Go.ChangeMaps (open_string shut_string)
set_option linter.unusedVariables false
theorem own : ownKnob Try.prog.godebug = none := by kernel_rfl
theorem laidOut : laidOutB Try.prog = true := by kernel_rfl
open Go Ieee Go.RowKit
open Go.Proofs.Ytabbfpjngbiohaa.slc Go.Proofs.Ytabbfpjngbiohaa.small Go.Proofs.Ytabbfpjngbiohaa.opens Go.Proofs.Ytabbfpjngbiohaa.floats Go.Proofs.Ytabbfpjngbiohaa.values Go.Proofs.Ytabbfpjngbiohaa.phasor Go.Proofs.Ytabbfpjngbiohaa.listC Go.Proofs.Ytabbfpjngbiohaa.polyNum Go.Proofs.Ytabbfpjngbiohaa.polyW Go.Proofs.Ytabbfpjngbiohaa.gPoly Go.Proofs.Ytabbfpjngbiohaa.gNum Go.Proofs.Ytabbfpjngbiohaa.r8 Go.Proofs.Ytabbfpjngbiohaa.src Go.Proofs.Ytabbfpjngbiohaa.srcW Go.Proofs.Ytabbfpjngbiohaa.fine Go.Proofs.Ytabbfpjngbiohaa.fineN Go.Proofs.Ytabbfpjngbiohaa.normSum Go.Proofs.Ytabbfpjngbiohaa.normNum Go.Proofs.Ytabbfpjngbiohaa.normP Go.Proofs.Ytabbfpjngbiohaa.normW Go.Proofs.Ytabbfpjngbiohaa.normF Go.Proofs.Ytabbfpjngbiohaa.failL Go.Proofs.Ytabbfpjngbiohaa.withoutN Go.Proofs.Ytabbfpjngbiohaa.withoutP Go.Proofs.Ytabbfpjngbiohaa.gap Go.Proofs.Ytabbfpjngbiohaa.gapR Go.Proofs.Ytabbfpjngbiohaa.sameC

theorem r8_one (A : Option Addr) (c n k : Nat) (w : World) : Calls Try.prog 17 #[.slice A n c, .int .i64 k, .int .i64 1] w fun e w' => e = .returned (.int .i64 0) ∧ w = w' := by
  go_enter Try.func17, Try.ntmps17
  go_wp2
  go_ret
  exact ⟨rfl, rfl⟩
/-- A number up to n. -/
theorem r8_upto (A : Option Addr) (c B : Nat) (z : List Int) (k n : Nat) (w : World) (hm : z.length ≤ 1048576) (hn : n ≤ 1000) (hz : Byt z) (hr : Rd w B A z.length (bt z)) :
    ∃ v : Nat, v ≤ n ∧ Calls Try.prog 17 #[.slice A z.length c, .int .i64 k, .int .i64 ((n : Int) + 1)] w fun e w' => e = .returned (.int .i64 v) ∧ w = w' := by
  by_cases h0 : n = 0
  · subst h0
    exact ⟨0, Nat.le_refl _, r8_one A c _ k w⟩
  · obtain ⟨b1, b2⟩ := r8_bd hz k ((n : Int) + 1) (by omega)
    refine ⟨(r8 z k ((n : Int) + 1)).toNat, by omega, ?_⟩
    rw [Int.toNat_of_nonneg b1]
    exact r8_at A c B z k ((n : Int) + 1) w hm (by omega) (by omega) hz hr
/-- A power, by the program, with the number of elements as it stands. -/
theorem powers_n (A : Option Addr) (c B n r : Nat) (l : List (Nat × Nat)) (w : World) (hl : l.length = n) (hn : n ≤ 64) (hok : PsOk l) (hr : Rd w B A n (ccell l)) (hB : B ≤ w.heap.size) (hw : floatToFloatBits .f64 (psum l) .f32 = some r) :
    Calls Try.prog 19 #[.slice A n c] w fun e w' => e = .returned (.tuple #[.float .f32 r, .bool true]) ∧ w.grownBy w' none := by
  subst hl
  exact powers_impl A c B r l w hn hok hr hB hw
theorem infoI : (Try.prog.info? 2).map (fun i => (i.zero, i.size, i.bytes)) = some (some (.int .i64 0), 1, 8) := by kernel_rfl
/-- The cells of the chosen places. -/
def fc (p : Nat → Bool) (i : Nat) : Nat → Value := fun j => (ints (fl p i)).getD j undef
theorem lst_ints (xs : List Int) : lst (fun j => (ints xs).getD j undef) xs.length = ints xs := by
  apply List.ext_getElem?
  intro i
  by_cases h : i < xs.length
  · rw [lst_get _ _ _ h]
    simp [ints, List.getD, List.getElem?_eq_getElem h]
  · rw [List.getElem?_eq_none (by rw [lst_len]; omega), List.getElem?_eq_none (by rw [ints_len]; omega)]
theorem fc_yes {p : Nat → Bool} {i : Nat} (h : p i = true) : lst (fc p i) (fl p i).length ++ [.int .i64 (i : Int)] = lst (fc p (i + 1)) (fl p (i + 1)).length := by
  unfold fc
  rw [lst_ints, lst_ints, fl_yes h]
  simp [ints]
theorem int_one (x : Int) : ∀ u ∈ [Value.int .i64 x], u.oneCell' = true := by
  intro u hu
  rw [List.mem_singleton] at hu
  subst hu; rfl

theorem q16_le : ∀ j : Nat, j < 65 → q16 ((j : Int) - 32) ≤ 4294967295 := by decide +kernel
theorem q16_lt {k : Int} (h : -32 ≤ k ∧ k ≤ 32) : (q16 k : Int) ≤ 4294967295 := by
  have := q16_le (k + 32).toNat (by omega)
  rw [show (((k + 32).toNat : Nat) : Int) - 32 = k by omega] at this
  omega
theorem fW_le {g : G} (h : InG g) : ((fW g).1 : Int) ≤ 4294967295 ∧ ((fW g).2 : Int) ≤ 4294967295 := ⟨q16_lt h.1, q16_lt h.2⟩

set_option maxHeartbeats 8000000 in
set_option maxRecDepth 100000 in
theorem law (A A' : Option Addr) (c d : Nat) (z y : List Int) (w : World) (hz : Byt z) (hy : Byt y) (hm : z.length ≤ 9223372036854775807) (hmy : y.length ≤ 9223372036854775807) (hr : Rd w w.heap.size A z.length (bt z)) (hr' : Rd w w.heap.size A' y.length (bt y)) :
    Calls Try.prog 3 #[.slice A z.length c, .slice A' y.length d] w fun e w' => e = .returned (.bool true) ∧ Below w.heap.size w w' := by
  by_cases hl : z.length ≤ 48 ∧ y.length ≤ 48
  · obtain ⟨hl1, hl2⟩ := hl
    obtain ⟨v, hv, H1⟩ := r8_upto A' d w.heap.size y 40 7 w (by omega) (by omega) hy hr'
    rw [show ((40 : Nat) : Int) = 40 from rfl, show (((7 : Nat) : Int) + 1) = 8 from rfl] at H1
    obtain ⟨n, hn⟩ : ∃ n : Nat, (n : Int) = 1 + v := ⟨v + 1, by omega⟩
    have hn1 : 1 ≤ n := by omega
    have hn8 : n ≤ 8 := by omega
    have HF := Lib.hid (fine_r8 A c z n w (by omega) (by omega) hz hr)
    rw [hn] at HF
    have v0 : (0 : Int) ≤ v := by omega
    have v7 : (v : Int) ≤ 7 := by omega
    have HY := Lib.hid hy
    have HH := Lib.hid H1
    have HRY := Lib.hid hr'
    clear hz hy H1 hr hr'
    go_enter Try.func3, Try.ntmps3
    go_wp2_with fail
    refine (long_no _ _ _ _ _ _ _ hl1 hl2).mono ?_
    rintro e w' ⟨rfl, rfl⟩
    go_wp2_with fail
    refine HH.out.mono ?_
    rintro e w' ⟨rfl, rfl⟩
    clear HH
    go_wp2_with fail
    refine HF.out.mono ?_
    clear HF
    rintro e w1 ⟨zs, A1, c1, hzl, hzs, rfl, o1, g1⟩
    have HR1 := Lib.hid (Rd.of_lst o1 (Nat.mul_one _).symm)
    obtain ⟨q1, q2⟩ := own_le o1
    clear o1
    subst hzl
    clear hn v0 v7 hv
    have G1 := Lib.hid g1
    obtain ⟨ad1, rfl, _, _⟩ := HR1.out.at_ (show 0 < zs.length by omega)
    have HN := Lib.hid (norm_c (some ad1) c1 w1.heap.size zs w1 hn1 hn8 hzs HR1.out (Nat.le_refl _))
    have HP := Lib.hid (fun (w2 : World) (g : w1.grownBy w2 none) => powers_n (some ad1) c1 w1.heap.size zs.length _ (zs.map fW) w2 (by simp) (by omega) (psOk_f zs hzs (by omega)) (HR1.out.kept0 g (Nat.le_refl _)) g.size (pow_gt zs hzs hn8).1)
    have HNA := Lib.hid (fun h1 => norm_all zs hzs hn8 h1)
    have hgt := (pow_gt zs hzs hn8).2
    have HZS := Lib.hid hzs
    clear hzs g1
    go_wp2_with fail
    refine HN.out.mono ?_
    rintro e w2 (⟨hs, rfl, g2⟩ | ⟨hs, A2, c2, kb, rfl, hkb, o2, g2⟩)
    case' inl =>
      rw [decide_eq_false (by omega)] at hgt
      have HP2 := Lib.hid (HP.out w2 g2)
      generalize nw (psum (zs.map fW)) = P at *
      clear HP HN HNA
      go_wp2_with fail
      refine HP2.out.mono ?_
      rintro e w3 ⟨rfl, g3⟩
      clear HP2
      have G0 := Lib.hid (g2.trans g3)
      clear g2 g3
      go_wp2_with fail
      clear hgt hs
    case' inr =>
      obtain ⟨hna1, hna2, hna3⟩ := HNA.out hs
      obtain ⟨k1, k2, k3, k4⟩ := gap_ok hna2 hna3
      have hcv := cvw k2
      have HGP := Lib.hid (fun w : World => gap_any k3 one64.1 (by decide) w)
      have HP2 := Lib.hid (HP.out w2 g2)
      have HK := Lib.hid (show ∀ x ∈ (zs.map fW).map (sc (byW (nw (psum (zs.map fW))))), Cb x 1 from fun x hx => by
        obtain ⟨y1, hy1, rfl⟩ := List.mem_map.1 hx
        obtain ⟨g, hg, rfl⟩ := List.mem_map.1 hy1
        exact (hna1 g hg).2)
      have HRo := Lib.hid (Rd.of_lst o2 (Nat.mul_one _).symm)
      have HPO := Lib.hid (fun (w3 : World) (g : w2.grownBy w3 none) => powers_n A2 c2 w2.heap.size zs.length _ ((zs.map fW).map (sc (byW (nw (psum (zs.map fW)))))) w3 (by simp) (by omega) (psOk_of _ HK.out (by simp; omega)) (HRo.out.kept0 g (Nat.le_refl _)) g.size k1)
      rw [decide_eq_true hs] at hgt
      generalize nw (psum ((zs.map fW).map (sc (byW (nw (psum (zs.map fW))))))) = PO at hcv HPO k4 HGP
      generalize nw (psum (zs.map fW)) = P at hgt HP2
      clear HP HN HNA hna1 hna2 hna3 k1 k2 k3 HK HRo o2 hs hkb
      go_wp2_with fail
      refine HP2.out.mono ?_
      rintro e w0 ⟨rfl, g3⟩
      clear HP2
      go_wp2_with fail
      refine (HPO.out _ g3).mono ?_
      rintro e w3 ⟨rfl, g4⟩
      clear HPO hgt
      go_wp2_with fail
      refine (HGP.out _).mono ?_
      rintro e w' ⟨rfl, rfl⟩
      clear HGP hcv
      go_wp2_with fail
      clear k4
      have G0 := Lib.hid ((g2.trans g3).trans g4)
      clear g2 g3 g4
    all_goals
      obtain ⟨i0, hi0, hz0, hz1, hz2⟩ := info_parts infoI
      obtain ⟨p, hp⟩ : ∃ p : Nat → Bool, p = fun i : Nat => decide (r8 y (i : Int) 3 = 0) := ⟨_, rfl⟩
      have HPP := Lib.hid (fun i => congrFun hp i)
      clear hp
      go_loopw [12, 13] (fun v i wr => ∃ k : Nat, k ≤ zs.length ∧ i = .int .i64 k ∧ wr.ownsRow w3.heap.size 2 1 v (fl p k).length (lst (fc p k) (fl p k).length) ∧ w3.grownBy wr none) (fun _ i _ => zs.length - (intOf i).toNat)
      case atStart =>
        have ga := World.grownBy_alloc w3 (.cells #[] 2) none
        refine ⟨0, Nat.zero_le _, rfl, ?_, ga⟩
        exact World.ownsRow_lit (base := w3.heap.size) (e := 2) (size := 1) w3 #[] 0 (Nat.le_refl _) (Nat.zero_le _) rfl
      case round =>
        obtain ⟨k, hk, rfl, hown, hg⟩ := hrel
        by_cases hkt : k < zs.length
        · have hry := HRY.out.kept0 ((G1.out.trans G0.out).trans hg) (Nat.le_refl _)
          have HH3 := Lib.hid (r8_at A' d w.heap.size y k 3 wr (by omega) (by omega) (by omega) HY.out hry)
          have HO := Lib.hid hown
          have HG := Lib.hid hg
          have HQ := Lib.hid (HPP.out k)
          generalize r8 y (k : Int) 3 = rv at HH3 HQ
          clear hry hown hg
          have k0 : (0 : Int) ≤ k := by omega
          have k1 : (k : Int) < zs.length := by omega
          go_wp2_with fail
          refine HH3.out.mono ?_
          rintro e w' ⟨rfl, rfl⟩
          clear HH3
          by_cases h0 : rv = 0
          · subst h0
            have hpk : p k = true := HQ.out
            have HE := Lib.hid (fc_yes hpk)
            have HE2 := Lib.hid (fl_yes hpk)
            have hlen := fl_len p k
            have HGA := Lib.hid (World.grownBy_alloc wr (.cells #[.int .i64 k] 2) none)
            have hbs : w3.heap.size ≤ (wr.alloc (.cells #[.int .i64 k] 2)).heap.size := by have := HG.out.size; simp; omega
            have O2 := HO.out
            clear hpk
            go_wp2_with (at_builtin; refine wpList_append_own _ rfl _ _ 34 rfl w3.heap.size 2 i0 (.int .i64 0) 1 8 Try.underlying34 hi0 hz0 hz1 hz2 rfl (by decide) _ _ _ rfl (O2.alloc _) ⟨wr.heap.size, 0, none⟩ 1 1 [.int .i64 (k : Int)] rfl rfl (cell_one_new _ _ _) (int_one _) (by unfold maxLen; omega) (by omega) hbs ?_; intro v' w4 hown' hgrow _)
            rw [HE.out] at hown'
            have G4 := gb_new (HG.out.trans HGA.out) hgrow (by intro g e; have := (O2.lt g e).1; omega)
            have HO' := Lib.hid hown'
            have HG4 := Lib.hid G4
            clear hown' G4 hgrow O2 hbs hlen
            go_wp2_with fail
            go_roundw
            case rel => exact ⟨k + 1, by omega, by go_num, by have := HO'.out; rw [HE2.out, List.length_append] at this ⊢; exact this, HG4.out⟩
            case measure => simp [intOf]; omega
          · have hpk : p k = false := by rw [HQ.out]; exact decide_eq_false h0
            have HE := Lib.hid (fl_no hpk)
            clear hpk
            go_wp2_with fail
            go_roundw
            case rel => exact ⟨k + 1, by omega, by go_num, by have := HO.out; unfold fc at this ⊢; rw [HE.out]; exact this, HG.out⟩
            case measure => simp [intOf]; omega
        · obtain rfl : k = zs.length := by omega
          obtain ⟨A3, c3, rfl⟩ := own_form hown
          have HR3 := Lib.hid (Rd.of_lst hown (Nat.mul_one _).symm)
          have hlen := fl_len p zs.length
          have HW := Lib.hid (without_c ad1 A3 zs.length c1 c3 w1.heap.size wr.heap.size (zs.map fW) (fl p zs.length) wr hn1 (by omega) (by omega) (fl_get p zs.length) (fl_up p zs.length) (HR1.out.kept0 (G0.out.trans hg) (Nat.le_refl _)) (G0.out.trans hg).size HR3.out (Nat.le_refl _))
          have HG := Lib.hid hg
          clear hown hg hlen
          go_wp2_with fail
          refine HW.out.mono ?_
          rintro e w5 ⟨A5, c5, rfl, o5, g5⟩
          have HR5 := Lib.hid (Rd.of_lst o5 (Nat.mul_one _).symm)
          obtain ⟨ad5, rfl, _, _⟩ := HR5.out.at_ (show 0 < zs.length by omega)
          have HG5 := Lib.hid g5
          clear o5 HW g5
          go_wp2_with fail
          have HG6 := Lib.hid ((G0.out.trans HG.out).trans HG5.out)
          go_loopw [16, 17] (fun kv iv wr => ∃ i : Nat, i ≤ zs.length ∧ iv = .int .i64 i ∧ kv = .int .i64 (fl p i).length ∧ w5.grownBy wr none) (fun _ iv _ => zs.length - (intOf iv).toNat)
          case atStart => exact ⟨0, Nat.zero_le _, rfl, rfl, World.grownBy.refl _ _⟩
          case round =>
            obtain ⟨i, hi, rfl, rfl, hg⟩ := hrel
            by_cases hit : i < zs.length
            · have hzi := getD_map zs i hit
              have hle := fW_le (HZS.out _ hzi.2)
              obtain ⟨a1, ea1, _, ca1⟩ := (HR1.out.kept0 (HG6.out.trans hg) (Nat.le_refl _)).at_ hit
              obtain rfl : ad1 = a1 := by injection ea1
              obtain ⟨a5, ea5, _, ca5⟩ := (HR5.out.kept0 hg (Nat.le_refl _)).at_ hit
              obtain rfl : ad5 = a5 := by injection ea5
              have hcc : ccell (zs.map fW) i = .complex .f32 (fW (zs.getD i (0, 0))).1 (fW (zs.getD i (0, 0))).2 := by rw [ccell, hzi.1]
              rw [hcc] at ca1
              simp only [clr, List.take_length] at ca5
              rw [hcc] at ca5
              clear hcc
              have HFL := Lib.hid (fl_at p hit)
              have HXS := Lib.hid ((HR3.out.kept0 (HG5.out.trans hg) (Nat.le_refl _)))
              have i0' : (0 : Int) ≤ i := by omega
              have i1' : (i : Int) < zs.length := by omega
              have HG := Lib.hid hg
              clear hg hzi ea1 ea5
              generalize fW (zs.getD i (0, 0)) = q at *
              have HI1 := Lib.hid (fl_mem p zs.length i)
              have hlen := fl_len p i
              have hlen2 := fl_len p zs.length
              by_cases hpi : p i = true
              · obtain ⟨f1, f2⟩ := HFL.out.1 hpi
                obtain ⟨a3, ea3, _, ca3⟩ := HXS.out.at_ f1
                subst ea3
                rw [show fc p zs.length (fl p i).length = .int .i64 (i : Int) by rw [← f2]; simp [fc, ints, List.getD, f1]] at ca3
                rw [if_pos (HI1.out.2 ⟨hit, hpi⟩)] at ca5
                have HE := Lib.hid (show (fl p (i + 1)).length = (fl p i).length + 1 by rw [fl_yes hpi]; simp)
                have HS := Lib.hid (fun w => same_c 0 0 w (by decide) (by decide))
                clear HFL HXS HI1 f2 hpi
                generalize (fl p i).length = m1 at *
                generalize (fl p zs.length).length = m2 at *
                go_wp2_with fail
                refine (HS.out _).mono ?_
                rintro e w6 ⟨rfl, hg6⟩
                have HG7 := Lib.hid (HG.out.trans hg6)
                clear hg6
                go_wp2_with fail
                go_roundw
                case rel => exact ⟨i + 1, by omega, by go_num, by rw [HE.out]; go_num, HG7.out⟩
                case measure => simp [intOf]; omega
              · have hpf : p i = false := by simpa using hpi
                rw [if_neg (fun h => by have := (HI1.out.1 h).2; rw [hpf] at this; cases this)] at ca5
                have HE := Lib.hid (show (fl p (i + 1)).length = (fl p i).length by rw [fl_no hpf])
                have HS := Lib.hid (fun w => same_c q.1 q.2 w hle.1 hle.2)
                by_cases f1 : (fl p i).length < (fl p zs.length).length
                · have f2 := HFL.out.2 hpf f1
                  obtain ⟨a3, ea3, _, ca3⟩ := HXS.out.at_ f1
                  subst ea3
                  rw [show fc p zs.length (fl p i).length = .int .i64 ((fl p zs.length)[(fl p i).length]) by simp [fc, ints, List.getD, f1]] at ca3
                  generalize (fl p zs.length)[(fl p i).length] = xv at f2 ca3
                  clear HFL HXS HI1 hpi hpf
                  generalize (fl p i).length = m1 at *
                  generalize (fl p zs.length).length = m2 at *
                  go_wp2_with fail
                  refine (HS.out _).mono ?_
                  rintro e w6 ⟨rfl, hg6⟩
                  have HG7 := Lib.hid (HG.out.trans hg6)
                  clear hg6
                  go_wp2_with fail
                  go_roundw
                  case rel => exact ⟨i + 1, by omega, by go_num, by rw [HE.out], HG7.out⟩
                  case measure => simp [intOf]; omega
                · clear HFL HXS HI1 hpi hpf
                  generalize (fl p i).length = m1 at *
                  generalize (fl p zs.length).length = m2 at *
                  go_wp2_with fail
                  refine (HS.out _).mono ?_
                  rintro e w6 ⟨rfl, hg6⟩
                  have HG7 := Lib.hid (HG.out.trans hg6)
                  clear hg6
                  go_wp2_with fail
                  go_roundw
                  case rel => exact ⟨i + 1, by omega, by go_num, by rw [HE.out], HG7.out⟩
                  case measure => simp [intOf]; omega
            · obtain rfl : i = zs.length := by omega
              have HB := Lib.hid (gb_below (G1.out.trans (HG6.out.trans hg)))
              clear hg
              go_wp2_with fail
              go_ret
              exact ⟨rfl, HB.out⟩
  · have hl' : 48 < z.length ∨ 48 < y.length := by omega
    go_enter Try.func3, Try.ntmps3
    go_wp2_with fail
    refine (long_yes _ _ _ _ _ _ _ hl' hm hmy).mono ?_
    rintro e w' ⟨rfl, rfl⟩
    go_wp2_with fail
    go_ret
    exact ⟨rfl, Below.refl _ _⟩

theorem walk (a0 : Option Addr) (len0 cap0 : Nat) (z0 : List Int) (a1 : Option Addr) (len1 cap1 : Nat) (z1 : List Int) (w : World) (l0 : z0.length = len0) (m0 : len0 ≤ maxLen) (w0 : ∀ x ∈ z0, (Lit.int .u8 x).wf = true) (r0 : Rd w w.heap.size a0 len0 (fun j => .int .u8 (z0.getD j 0)))
    (l1 : z1.length = len1) (m1 : len1 ≤ maxLen) (w1 : ∀ x ∈ z1, (Lit.int .u8 x).wf = true) (r1 : Rd w w.heap.size a1 len1 (fun j => .int .u8 (z1.getD j 0))) :
    Calls Try.prog 3 #[.slice a0 len0 cap0, .slice a1 len1 cap1] w fun e w' => e = .returned (.bool true) ∧ Below w.heap.size w w' := by
  subst l0 l1
  unfold maxLen at m0 m1
  exact law a0 a1 cap0 cap1 z0 z1 w (Byt.of w0) (Byt.of w1) (by omega) (by omega) r0 r1

set_option maxRecDepth 100000 in
theorem lifted (os : Os) (started : os.Started) (H : Type) (enc : TypeId × Value → H) :
    ReturnsInHanded {} Try.checked os 3 .any (Rows.fnNormedSpec.pre6 enc Try.prog Try.f3 Rows.fnNormedRow.domain false) (Rows.fnNormedSpec.post enc Try.prog Try.f3 false true false false) := by
  refine returnsInHanded_of_change (C := Try.checked) own started (by kernel_rfl) Try.func3
    (ChangeSpec.witness6 (enc := enc) (C := Try.checked) false ⟨#[], #[.slice none 0 0, .slice none 0 0], []⟩ 8 (by kernel_rfl) (by kernel_rfl) (by kernel_rfl) (by kernel_rfl)) ?_
  intro W base args ds gs before hval0 hW hcnd _
  have hval : ∀ (j : Nat) t v, Try.f3.params[j]? = some t → args[j]? = some v → Value.okWide Try.prog W .any base t v := hval0
  have hW' := hW
  obtain ⟨p, q, hA0, hV, rfl, hfz, hnd⟩ := hW
  have hA : DataW.TrodAll enc Try.prog W 0 (fun _ => true) true Try.f3.params.toList args.toList ds p := hA0
  rw [Try.params3] at hA hval
  obtain ⟨v0, vs0, d0, ds0, p0, q0, hargs, rfl, rfl, h0, r0⟩ := trodAll_cons hA
  obtain ⟨v1, vs1, d1, ds1, p1, q1, rfl, rfl, rfl, h1, r1⟩ := trodAll_cons r0
  obtain ⟨rfl, rfl, rfl⟩ := trodAll_nil r1
  obtain rfl : args = #[v0, v1] := by cases args; simp_all
  obtain ⟨rfl, rfl⟩ := trodVars_none hV
  obtain ⟨a0, len0, cap0, rfl⟩ := okWide_slice Try.underlying22 (hval 0 22 v0 rfl rfl)
  have k0 := h0
  have lt0 : ∀ x ∈ p0, x.block < W.heap.size := by obtain ⟨m, hm⟩ := k0; exact DataW.trod_lt m _ _ _ hm
  obtain ⟨z0, l0, m0, w0, r0'⟩ := opened_ints Try.underlying22 Try.underlying5 (by kernel_rfl) k0
  obtain ⟨a1, len1, cap1, rfl⟩ := okWide_slice Try.underlying22 (hval 1 22 v1 rfl rfl)
  have k1 := h1
  have lt1 : ∀ x ∈ p1, x.block < W.heap.size := by obtain ⟨m, hm⟩ := k1; exact DataW.trod_lt m _ _ _ hm
  obtain ⟨z1, l1, m1, w1, r1'⟩ := opened_ints Try.underlying22 Try.underlying5 (by kernel_rfl) k1
  clear hA0 hval0
  refine (walk a0 len0 cap0 z0 a1 len1 cap1 z1 W l0 m0 w0 r0' l1 m1 w1 r1').mono fun e W' ⟨he, bel⟩ => ?_
  subst he
  exact ⟨_, rfl, _, _, _, [], _, [], hW', trodAll_mk1 (shut_bool Try.underlying4 _), (trodAll_cons_mk (Below.trod laidOut (by kernel_rfl) (of_decide_eq_true (by kernel_rfl)) k0 bel lt0) (trodAll_cons_mk (Below.trod laidOut (by kernel_rfl) (of_decide_eq_true (by kernel_rfl)) k1 bel lt1) trodAll_mk0)), rfl, bel.frame _, fun h => by cases h⟩

theorem leave_of_alone {P : Program} {m : Machine} {w : World} {t : Trace} (h : aloneAtReturn P m w t) : leavingAtReturn P m w t := by
  obtain ⟨⟨h1, h2⟩, h3, h4⟩ := h
  refine ⟨h3, ⟨fun g hg => ⟨0, ?_⟩, h2⟩, h4⟩
  unfold Machine.othersDone at h1
  rw [List.all_eq_true] at h1
  have h5 := h1 g hg
  show g.status = .finished
  revert h5
  cases g.status <;> simp

theorem over : Rows.fnNormedRow.holds Try.pinned (OpenSpec.ofChange Rows.fnNormedSpec) :=
  OpenClaim.holds_of_wide_leaving 3 Try.f3 rfl rfl rfl rfl rfl rfl rfl ⟨rfl, rfl, rfl, rfl, rfl⟩ rfl rfl rfl rfl rfl (by kernel_rfl) Try.func3 (by kernel_rfl)
    (of_decide_eq_true (by kernel_rfl)) (by unfold Func.isWrapper; first | (rw [if_pos (by decide +kernel)]; kernel_rfl) | (rw [if_neg (by decide +kernel)]; exact ⟨rfl, rfl⟩))
    (fun os started H enc _ => fun e => ReturnsInOpen.mono (fun _ _ _ x => leave_of_alone x) (fun _ x => x) (lifted os started H enc e))

theorem proved : Rows.FnNormedSaid := over
#print axioms proved
end Go.Proofs.Ytabbfpjngbiohaa.fnNormed
