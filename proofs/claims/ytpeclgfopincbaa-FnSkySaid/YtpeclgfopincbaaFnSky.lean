/- The power of the sky is the sum of the powers of all directions of a step, and of as many as told: the law answers true at every input. No condition. -/
import Derived.Test.YtpeclgfopincbaaRows
import Derived.Test.YtpeclgfopincbaaSlc
import Derived.Test.YtpeclgfopincbaaSmall
import Derived.Test.YtpeclgfopincbaaOpens
import Derived.Test.YtpeclgfopincbaaPlaces
import Derived.Test.YtpeclgfopincbaaPlaceSet
import Derived.Test.YtpeclgfopincbaaListP
import Derived.Test.YtpeclgfopincbaaR8
import Derived.Test.YtpeclgfopincbaaSrc
import Derived.Test.YtpeclgfopincbaaSteps
import Derived.Test.YtpeclgfopincbaaFloats
import Derived.Test.YtpeclgfopincbaaRound
import Derived.Test.YtpeclgfopincbaaValues
import Derived.Test.YtpeclgfopincbaaConv
import Derived.Test.YtpeclgfopincbaaFWalk
import Derived.Test.YtpeclgfopincbaaFinWalk
import Derived.Test.YtpeclgfopincbaaRoot
import Derived.Test.YtpeclgfopincbaaFloat2
import Derived.Test.YtpeclgfopincbaaFloat3
import Derived.Test.YtpeclgfopincbaaPhase
import Derived.Test.YtpeclgfopincbaaSine
import Derived.Test.YtpeclgfopincbaaPhasor
import Derived.Test.YtpeclgfopincbaaBits
import Derived.Test.YtpeclgfopincbaaListC
import Derived.Test.YtpeclgfopincbaaListCC
import Derived.Test.YtpeclgfopincbaaSteerNum
import Derived.Test.YtpeclgfopincbaaSineIn
import Derived.Test.YtpeclgfopincbaaPolyNum
import Derived.Test.YtpeclgfopincbaaPolyW
import Derived.Test.YtpeclgfopincbaaPoly1
import Derived.Test.YtpeclgfopincbaaPoly2
import Derived.Test.YtpeclgfopincbaaGPoly
import Derived.Test.YtpeclgfopincbaaGNum
import Derived.Test.YtpeclgfopincbaaSrcW
import Derived.Test.YtpeclgfopincbaaRq
import Derived.Test.YtpeclgfopincbaaPowW
import Derived.Test.YtpeclgfopincbaaPolyD
import Derived.Test.YtpeclgfopincbaaSteering
import Derived.Test.YtpeclgfopincbaaDotC
import Derived.Test.YtpeclgfopincbaaFine
import Derived.Test.YtpeclgfopincbaaDrawOk
import Derived.Test.YtpeclgfopincbaaB10
import Derived.Test.YtpeclgfopincbaaPat
import Derived.Test.YtpeclgfopincbaaPowAt
import Derived.Test.YtpeclgfopincbaaSkyNum
import Derived.Test.YtpeclgfopincbaaSkySeq
import Derived.Test.YtpeclgfopincbaaSkyI
import Derived.Test.YtpeclgfopincbaaSameC
import Derived.WalkKit
import Derived.ProofKit
import Derived.OpenShut
import Derived.ShutString
import Derived.ChangeOld
import Derived.Below
import Derived.Lib.Hide
import Derived.BigQuiet
import Derived.Deep.QuietTactic
import Derived.WalkLawsBesides
import Derived.Outline
import Derived.Deep.LoopGhost
import Derived.Deep.RegionHeld3
import Derived.Laws.ComplexArith
namespace Go.Proofs.Ytpeclgfopincbaa.fnSky
open Go.ChangeShapes Go.WideShapes Go.ChangeAt Go.RowKit
open Go.ChangeMaps (open_string shut_string)
set_option linter.unusedVariables false
theorem own : ownKnob Try.prog.godebug = none := by kernel_rfl
theorem laidOut : laidOutB Try.prog = true := by kernel_rfl
open Go Ieee Go.RowKit
open Go.Proofs.Ytpeclgfopincbaa.sine Go.Proofs.Ytpeclgfopincbaa.float2 Go.Proofs.Ytpeclgfopincbaa.slc Go.Proofs.Ytpeclgfopincbaa.small Go.Proofs.Ytpeclgfopincbaa.opens Go.Proofs.Ytpeclgfopincbaa.places Go.Proofs.Ytpeclgfopincbaa.listP Go.Proofs.Ytpeclgfopincbaa.floats Go.Proofs.Ytpeclgfopincbaa.values Go.Proofs.Ytpeclgfopincbaa.phasor Go.Proofs.Ytpeclgfopincbaa.bits Go.Proofs.Ytpeclgfopincbaa.listC Go.Proofs.Ytpeclgfopincbaa.steerNum Go.Proofs.Ytpeclgfopincbaa.sineIn Go.Proofs.Ytpeclgfopincbaa.polyNum Go.Proofs.Ytpeclgfopincbaa.polyW Go.Proofs.Ytpeclgfopincbaa.gPoly Go.Proofs.Ytpeclgfopincbaa.gNum Go.Proofs.Ytpeclgfopincbaa.r8 Go.Proofs.Ytpeclgfopincbaa.fine Go.Proofs.Ytpeclgfopincbaa.b10 Go.Proofs.Ytpeclgfopincbaa.pat Go.Proofs.Ytpeclgfopincbaa.powAt Go.Proofs.Ytpeclgfopincbaa.skyNum Go.Proofs.Ytpeclgfopincbaa.skyI Go.Proofs.Ytpeclgfopincbaa.sameC

theorem all_len : all.length = 129 := by simp [all]
theorem all_at : ∀ j : Nat, j < 129 → all.getD j 0 = (j : Int) - 64 := by
  intro j hj
  rw [skyNum.get_at _ _ (by rw [all_len]; exact hj)]
  simp [all]
theorem same_nm (x : Nat) (w : World) (hx : (x : Int) ≤ 4294967295) :
    Calls Try.prog 21 #[.float .f32 x, .float .f32 x] w fun e w' => e = .returned (.bool true) ∧ w = w' := by
  have hl : ∀ w, Calls Try.prog 101 #[.float .f32 x, .float .f32 x] w fun e w' => e = .returned (.bool true) ∧ w = w' := by
    intro w
    go_enter Try.func101, Try.ntmps101
    go_wp2_with fail
    refine (spec_bits x _ hx).mono ?_
    rintro e w' ⟨rfl, rfl⟩
    go_wp2_with fail
    refine (spec_bits x _ hx).mono ?_
    rintro e w' ⟨rfl, rfl⟩
    go_wp2_with fail
    go_ret
    exact ⟨by simp, rfl⟩
  go_enter Try.func21, Try.ntmps21
  go_wp2_with fail
  refine (hl _).mono ?_
  rintro e w' ⟨rfl, rfl⟩
  go_wp2_with fail
  go_ret
  exact ⟨rfl, rfl⟩
theorem tm0 {u s : Int} (h : ¬ u.tmod s = 0) : decide (u.tmod s = 0) = false := decide_eq_false h

set_option maxRecDepth 100000 in
set_option maxHeartbeats 4000000 in
theorem law (A A' : Option Addr) (c c' : Nat) (z y : List Int) (w : World) (hz : Byt z) (hy : Byt y) (hm : z.length ≤ 9223372036854775807) (hmy : y.length ≤ 9223372036854775807) (hr : Rd w w.heap.size A z.length (bt z)) (hr' : Rd w w.heap.size A' y.length (bt y)) :
    Calls Try.prog 3 #[.slice A z.length c, .slice A' y.length c'] w fun e w' => e = .returned (.bool true) ∧ Below w.heap.size w w' := by
  by_cases hl : z.length ≤ 1048576 ∧ y.length ≤ 1048576
  · obtain ⟨hl1, hl2⟩ := hl
    have hlong := fun w => long_no A A' z.length c y.length c' w hl1 hl2
    have hpl := Lib.hid (places_b10 A c z w hl1 hz hr)
    go_enter Try.func3, Try.ntmps3
    go_wp2_with fail
    refine (hlong _).mono ?_
    rintro e w' ⟨rfl, rfl⟩
    clear hlong
    go_wp2_with fail
    refine hpl.out.mono ?_
    rintro e w1 ⟨ps, A1, c1, hv, rfl, ho1, hg1⟩
    clear hpl
    have hps16 := (vp_yes hv).2.1
    have R1 := Lib.hid (Rd.of_lst ho1 rfl)
    have hr1 := hr'.kept0 hg1 (Nat.le_refl _)
    have HFI := Lib.hid (fine_b10 A' c' y ps.length w1 (by omega) hl2 hy (hr1.mono hg1.size))
    have HAT := Lib.hid (fun (w2 : World) (g : w1.grownBy w2 none) => b10_at A' c' w.heap.size y 0 49 w2 (by omega) hl2 (by omega) (by omega) hy (hr1.kept0 g hg1.size))
    clear ho1 hr1
    go_wp2_with fail
    refine HFI.out.mono ?_
    rintro e w2 ⟨zs, A2, c2, hzl, hzg, rfl, ho2, hg2⟩
    have R2 := Lib.hid (Rd.of_lst ho2 (Nat.mul_one _).symm)
    have HA2 := Lib.hid (HAT.out w2 hg2)
    have hb := b10_bd (z := y) 0 49 (by omega)
    clear HAT HFI ho2
    generalize b10 y 0 49 = t0 at *
    obtain ⟨t, rfl⟩ : ∃ t : Nat, t0 = (t : Int) := ⟨t0.toNat, by omega⟩
    go_wp2_with fail
    refine HA2.out.mono ?_
    rintro e w3 ⟨rfl, rfl⟩
    clear HA2
    go_wp2_with fail
    obtain ⟨s, hs⟩ : ∃ s : Nat, s = 16 + t := ⟨_, rfl⟩
    have es : (16 : Int) + (t : Int) = (s : Int) := by omega
    rw [es]
    have h0 : 16 ≤ s := by omega
    have h1 : s < 65 := by omega
    have hwk : Wk (zs.map fW) := by
      intro x hx
      obtain ⟨g, hg, rfl⟩ := List.mem_map.1 hx
      exact fW_cb (hzg g hg)
    have hlen : (zs.map fW).length = ps.length := by rw [List.length_map, hzl]
    generalize zs.map fW = l at *
    have R12 := (R1.out.kept0 hg2 (Nat.le_refl _)).mono hg2.size
    have HB := Lib.hid (fun (u v : Int) (hd : dirB u v = true) => pwd_bs (u := u) (v := v) hlen hwk hv hd)
    have HS := Lib.hid (sky_i A1 A2 c1 c2 w2.heap.size ps l s w2 h0 h1 hv hlen hwk R12 R2.out (Nat.le_refl _))
    have HP := Lib.hid (fun (u v : Int) (wr : World) (hd : dirB u v = true) (g : w2.grownBy wr none) => pow_at A1 A2 c1 c2 w2.heap.size ps l u v wr hv hd hlen hwk (R12.kept0 g (Nat.le_refl _)) (R2.out.kept0 g (Nat.le_refl _)) g.size)
    have hG := hg1.trans hg2
    have HSM := Lib.hid (same s h0 h1)
    have HFEW := Lib.hid (few s h1 h0)
    clear R1 R2 R12 hv hzl hzg hwk hlen hr hr' hz hy hs hb es hg1 hg2
    generalize hP : pwd ps l = P at *
    clear hP
    generalize hX0 : sky P (rows (us s) cI (us s)) = X0 at *
    have HX0 := Lib.hid hX0
    clear hX0
    go_wp2_with fail
    refine HS.out.mono ?_
    rintro e w4 ⟨rfl, hg4⟩
    clear HS
    have hs0 : (s : Int) ≠ 0 := by omega
    have hs1 : (1 : Int) ≤ s := by omega
    have hs2 : (s : Int) ≤ 64 := by omega
    go_wp2_with fail
    go_loopw [11, 12, 13] (fun sm nm v wr => ∃ i : Nat, i ≤ 129 ∧ v = .int .i64 ((i : Int) - 64) ∧ sm = .float .f64 (sky P (wlk all (cL s) i 0)).1 ∧ nm = .int .i64 ((sky P (wlk all (cL s) i 0)).2 : Nat) ∧ w2.grownBy wr none) (fun _ _ v _ => (200 - intOf v).toNat)
    case atStart => exact ⟨0, by omega, rfl, by rw [wlk_zero]; rfl, by rw [wlk_zero]; rfl, hg4⟩
    case round =>
      obtain ⟨i, hi, rfl, rfl, rfl, hg⟩ := hrel
      by_cases hlt : i < 129
      · have hvi := all_at i hlt
        have HVI := Lib.hid hvi
        clear hvi
        generalize hV : (i : Int) - 64 = v at *
        have v0 : -64 ≤ v := by omega
        have v1 : v ≤ 64 := by omega
        have hVV := sq_bd v v0 v1
        go_wp2_with fail
        go_loopw [11, 12, 14] (fun sm nm u wr => ∃ j : Nat, j ≤ 129 ∧ u = .int .i64 ((j : Int) - 64) ∧ sm = .float .f64 (sky P (wlk all (cL s) i j)).1 ∧ nm = .int .i64 ((sky P (wlk all (cL s) i j)).2 : Nat) ∧ w2.grownBy wr none) (fun _ _ u _ => (200 - intOf u).toNat)
        case atStart => exact ⟨0, by omega, rfl, rfl, rfl, hg⟩
        case round =>
          obtain ⟨j, hj, rfl, rfl, rfl, hgi⟩ := hrel
          by_cases hjt : j < 129
          · have hnx := wlk_j all (cL s) i j (by rw [all_len]; exact hjt)
            rw [all_at j hjt, HVI.out] at hnx
            generalize hU : (j : Int) - 64 = u at *
            have u0 : -64 ≤ u := by omega
            have u1 : u ≤ 64 := by omega
            have hUU := sq_bd u u0 u1
            have HN := Lib.hid hnx
            have HW := Lib.hid (wlk_ok (cL_ok s) i j (by rw [all_len]; exact hlt))
            have HL := Lib.hid (show (wlk all (cL s) i j).length ≤ 49 from Nat.le_trans (wlk_len all (cL s) i j (by rw [all_len]; exact hlt)) (by rw [HSM.out]; exact HFEW.out))
            clear hnx
            by_cases hmu : u.tmod s = 0
            · by_cases hmv : v.tmod s = 0
              · generalize hUU' : u * u = uu at *
                generalize hVV' : v * v = vv at *
                by_cases hin : uu + vv ≤ 4096
                · have hd : dirB u v = true := by unfold dirB; exact decide_eq_true ⟨u0, u1, v0, v1, by rw [hUU', hVV']; exact hin⟩
                  have hc : cL s u v = true := by simp [cL, hmu, hmv, hUU', hVV', hin]
                  have HN2 := HN.out
                  rw [if_pos hc] at HN2
                  clear HN
                  obtain ⟨e1, e2, e3⟩ := sky_next HB.out (wlk all (cL s) i j) u v (by have := HL.out; omega) HW.out hd
                  rw [← HN2] at e2 e3
                  have r1 := cvw e1
                  have r2 := fun w : World => run_ok (P := Try.prog) e2 rfl w 32
                  have HE3 := Lib.hid e3
                  have HP2 := Lib.hid (HP.out u v wr hd hgi)
                  have hb2 : (sky P (wlk all (cL s) i j)).2 ≤ 49 := by rw [sky_len]; exact HL.out
                  clear e1 e2 e3 HN2 hc
                  generalize P u v = p at *
                  generalize sky P (wlk all (cL s) i j) = S1 at *
                  generalize hS2 : sky P (wlk all (cL s) i (j + 1)) = S2 at *
                  have HS2 := Lib.hid hS2
                  clear hS2
                  go_wp2_with fail
                  refine HP2.out.mono ?_
                  rintro e w5 ⟨rfl, hg5⟩
                  go_wp2_with fail
                  go_roundw
                  case rel => exact ⟨j + 1, by omega, by rw [← hU]; go_num, by rw [HS2.out], by rw [HS2.out, HE3.out]; rfl, hgi.trans hg5⟩
                  case measure => simp [intOf]; omega
                · have hc : cL s u v = false := by simp [cL, hmu, hmv, hUU', hVV']; omega
                  have HN2 := Lib.hid HN.out
                  rw [if_neg (by rw [hc]; simp), List.append_nil] at HN2
                  clear HN
                  have hin2 : 4096 < uu + vv := by omega
                  go_wp2_with fail
                  go_roundw
                  case rel => exact ⟨j + 1, by omega, by rw [← hU]; go_num, by rw [HN2.out], by rw [HN2.out], hgi⟩
                  case measure => simp [intOf]; omega
              · have hc : cL s u v = false := by simp [cL, hmv]
                have HN2 := Lib.hid HN.out
                rw [if_neg (by rw [hc]; simp), List.append_nil] at HN2
                clear HN
                go_wp2_with fail
                go_roundw
                case rel => exact ⟨j + 1, by omega, by rw [← hU]; go_num, by rw [HN2.out], by rw [HN2.out], hgi⟩
                case measure => simp [intOf]; omega
            · have hc : cL s u v = false := by simp [cL, hmu]
              have HN2 := Lib.hid HN.out
              rw [if_neg (by rw [hc]; simp), List.append_nil] at HN2
              clear HN
              go_wp2_with fail
              go_roundw
              case rel => exact ⟨j + 1, by omega, by rw [← hU]; go_num, by rw [HN2.out], by rw [HN2.out], hgi⟩
              case measure => simp [intOf]; omega
          · obtain rfl : j = 129 := by omega
            have HE := Lib.hid (wlk_i all (cL s) i (by rw [all_len]; exact hlt))
            rw [show ((129 : Nat) : Int) - 64 = 65 from rfl]
            go_wp2_with fail
            go_roundw
            case rel => exact ⟨i + 1, by omega, by rw [← hV]; go_num, by rw [HE.out, all_len], by rw [HE.out, all_len], hgi⟩
            case measure => simp [intOf]; omega
      · obtain rfl : i = 129 := by omega
        have HE := Lib.hid (show sky P (wlk all (cL s) 129 0) = X0 by rw [← HX0.out, ← HSM.out, ← wlk_end all (cL s), all_len])
        have hX := sky_bd HB.out (rows (us s) cI (us s)) (by have := HFEW.out; omega) (by
          intro d hd
          rw [← HSM.out, ← wlk_end all (cL s), all_len, wlk_i all (cL s) 128 (by rw [all_len]; omega)] at hd
          exact wlk_ok (cL_ok s) 128 _ (by rw [all_len]; omega) d hd)
        rw [HX0.out] at hX
        have rn := cvn (nw_is hX (by have := HFEW.out; omega)).1
        have HQ := Lib.hid (fun w : World => same_nm (nw X0.1) w (nw_le _))
        rw [HE.out]
        rw [show ((129 : Nat) : Int) - 64 = 65 from rfl]
        have HGG := Lib.hid (gb_below (hG.trans hg))
        clear hX hg hg4 hG HX0 HE
        go_wp2_with fail
        refine (HQ.out _).mono ?_
        rintro e w6 ⟨rfl, rfl⟩
        go_wp2_with fail
        go_ret
        exact ⟨rfl, HGG.out⟩
  · have hl' : 1048576 < z.length ∨ 1048576 < y.length := by omega
    go_enter Try.func3, Try.ntmps3
    go_wp2_with fail
    refine (long_yes _ _ _ _ _ _ _ hl' hm hmy).mono ?_
    rintro e w' ⟨rfl, rfl⟩
    go_wp2_with fail
    go_ret
    exact ⟨rfl, Below.refl _ _⟩

theorem walk (a0 : Option Addr) (len0 cap0 : Nat) (z0 : List Int) (a1 : Option Addr) (len1 cap1 : Nat) (z1 : List Int) (w : World) (l0 : z0.length = len0) (m0 : len0 ≤ maxLen) (w0 : ∀ x ∈ z0, (Lit.int .u8 x).wf = true) (r0 : Rd w w.heap.size a0 len0 (fun j => .int .u8 (z0.getD j 0)))
    (l1 : z1.length = len1) (m1 : len1 ≤ maxLen) (w1 : ∀ x ∈ z1, (Lit.int .u8 x).wf = true) (r1 : Rd w w.heap.size a1 len1 (fun j => .int .u8 (z1.getD j 0))) :
    Calls Try.prog 3 #[.slice a0 len0 cap0, .slice a1 len1 cap1] w fun e w' => e = .returned (.bool true) ∧ Below w.heap.size w w' := by
  subst l0 l1
  unfold maxLen at m0 m1
  exact law a0 a1 cap0 cap1 z0 z1 w (Byt.of w0) (Byt.of w1) (by omega) (by omega) r0 r1

set_option maxRecDepth 100000 in
theorem lifted (os : Os) (started : os.Started) (H : Type) (enc : TypeId × Value → H) :
    ReturnsInHanded {} Try.checked os 3 .any (Rows.fnSkySpec.pre6 enc Try.prog Try.f3 Rows.fnSkyRow.domain false) (Rows.fnSkySpec.post enc Try.prog Try.f3 false true false false) := by
  refine returnsInHanded_of_change (C := Try.checked) own started (by kernel_rfl) Try.func3
    (ChangeSpec.witness6 (enc := enc) (C := Try.checked) false ⟨#[], #[.slice none 0 0, .slice none 0 0], []⟩ 8 (by kernel_rfl) (by kernel_rfl) (by kernel_rfl) (by kernel_rfl)) ?_
  intro W base args ds gs before hval0 hW hcnd _
  have hval : ∀ (j : Nat) t v, Try.f3.params[j]? = some t → args[j]? = some v → Value.okWide Try.prog W .any base t v := hval0
  have hW' := hW
  obtain ⟨p, q, hA0, hV, rfl, hfz, hnd⟩ := hW
  have hA : DataW.TrodAll enc Try.prog W 0 (fun _ => true) true Try.f3.params.toList args.toList ds p := hA0
  rw [Try.params3] at hA hval
  obtain ⟨v0, vs0, d0, ds0, p0, q0, hargs, rfl, rfl, h0, r0⟩ := trodAll_cons hA
  obtain ⟨v1, vs1, d1, ds1, p1, q1, rfl, rfl, rfl, h1, r1⟩ := trodAll_cons r0
  obtain ⟨rfl, rfl, rfl⟩ := trodAll_nil r1
  obtain rfl : args = #[v0, v1] := by cases args; simp_all
  obtain ⟨rfl, rfl⟩ := trodVars_none hV
  obtain ⟨a0, len0, cap0, rfl⟩ := okWide_slice Try.underlying22 (hval 0 22 v0 rfl rfl)
  have k0 := h0
  have lt0 : ∀ x ∈ p0, x.block < W.heap.size := by obtain ⟨m, hm⟩ := k0; exact DataW.trod_lt m _ _ _ hm
  obtain ⟨z0, l0, m0, w0, r0'⟩ := opened_ints Try.underlying22 Try.underlying5 (by kernel_rfl) k0
  obtain ⟨a1, len1, cap1, rfl⟩ := okWide_slice Try.underlying22 (hval 1 22 v1 rfl rfl)
  have k1 := h1
  have lt1 : ∀ x ∈ p1, x.block < W.heap.size := by obtain ⟨m, hm⟩ := k1; exact DataW.trod_lt m _ _ _ hm
  obtain ⟨z1, l1, m1, w1, r1'⟩ := opened_ints Try.underlying22 Try.underlying5 (by kernel_rfl) k1
  clear hA0 hval0
  refine (walk a0 len0 cap0 z0 a1 len1 cap1 z1 W l0 m0 w0 r0' l1 m1 w1 r1').mono fun e W' ⟨he, bel⟩ => ?_
  subst he
  exact ⟨_, rfl, _, _, _, [], _, [], hW', trodAll_mk1 (shut_bool Try.underlying4 _), (trodAll_cons_mk (Below.trod laidOut (by kernel_rfl) (of_decide_eq_true (by kernel_rfl)) k0 bel lt0) (trodAll_cons_mk (Below.trod laidOut (by kernel_rfl) (of_decide_eq_true (by kernel_rfl)) k1 bel lt1) trodAll_mk0)), rfl, bel.frame _, fun h => by cases h⟩

set_option maxHeartbeats 8000000 in
theorem over : Rows.fnSkyRow.holds Try.pinned (OpenSpec.ofChange Rows.fnSkySpec) :=
  OpenClaim.holds_of_wide 3 Try.f3 rfl rfl rfl rfl rfl rfl rfl ⟨rfl, rfl, rfl, rfl, rfl⟩ rfl rfl rfl rfl rfl (by as_aux_lemma => kernel_rfl) Try.func3 (by as_aux_lemma => kernel_rfl)
    (of_decide_eq_true (by as_aux_lemma => kernel_rfl)) (by unfold Func.isWrapper; first | (rw [if_pos (by decide +kernel)]; kernel_rfl) | (rw [if_neg (by decide +kernel)]; exact ⟨rfl, rfl⟩))
    (fun os started H enc _ => lifted os started H enc)

theorem proved : Rows.FnSkySaid := over
#print axioms proved
end Go.Proofs.Ytpeclgfopincbaa.fnSky
