/- Along a line of four places, directions have the same phases exactly if they are twins: the law answers true at every input. No condition. -/
import Derived.Test.YtjmgohlepglkoabRows
import Derived.Test.YtjmgohlepglkoabSlc
import Derived.Test.YtjmgohlepglkoabSmall
import Derived.Test.YtjmgohlepglkoabListI
import Derived.Test.YtjmgohlepglkoabOpens
import Derived.Test.YtjmgohlepglkoabPlaces
import Derived.Test.YtjmgohlepglkoabPlaceSet
import Derived.Test.YtjmgohlepglkoabListP
import Derived.Test.YtjmgohlepglkoabSteps
import Derived.Test.YtjmgohlepglkoabListC
import Derived.Test.YtjmgohlepglkoabFloats
import Derived.Test.YtjmgohlepglkoabRound
import Derived.Test.YtjmgohlepglkoabValues
import Derived.Test.YtjmgohlepglkoabConv
import Derived.Test.YtjmgohlepglkoabFWalk
import Derived.Test.YtjmgohlepglkoabFinWalk
import Derived.Test.YtjmgohlepglkoabFloat2
import Derived.Test.YtjmgohlepglkoabFloat3
import Derived.Test.YtjmgohlepglkoabPhase
import Derived.Test.YtjmgohlepglkoabSine
import Derived.Test.YtjmgohlepglkoabPhasor
import Derived.Test.YtjmgohlepglkoabBits
import Derived.Test.YtjmgohlepglkoabSteerNum
import Derived.Test.YtjmgohlepglkoabSteering
import Derived.Test.YtjmgohlepglkoabSteering2
import Derived.Test.YtjmgohlepglkoabGrid
import Derived.Test.YtjmgohlepglkoabTwinNum
import Derived.Test.YtjmgohlepglkoabTwinI
import Derived.Test.YtjmgohlepglkoabR8
import Derived.Test.YtjmgohlepglkoabSameC
import Derived.Test.YtjmgohlepglkoabLineI
import Derived.WalkKit
import Derived.ProofKit
import Derived.OpenShut
import Derived.ShutString
import Derived.ChangeOld
import Derived.Below
import Derived.Lib.Hide
import Derived.BigQuiet
import Derived.Deep.QuietTactic
import Derived.WalkLawsBesides
import Derived.Outline
import Derived.Deep.LoopGhost
import Derived.Deep.RegionHeld3
namespace Go.Proofs.Ytjmgohlepglkoab.fnTwins
open Go.ChangeShapes Go.WideShapes Go.ChangeAt Go.RowKit
open Go.ChangeMaps (open_string shut_string)
set_option linter.unusedVariables false
theorem own : ownKnob Try.prog.godebug = none := by kernel_rfl
theorem laidOut : laidOutB Try.prog = true := by kernel_rfl
open Go Ieee Go.RowKit
open Go.Proofs.Ytjmgohlepglkoab.slc Go.Proofs.Ytjmgohlepglkoab.small Go.Proofs.Ytjmgohlepglkoab.listI Go.Proofs.Ytjmgohlepglkoab.opens Go.Proofs.Ytjmgohlepglkoab.places Go.Proofs.Ytjmgohlepglkoab.listP Go.Proofs.Ytjmgohlepglkoab.listC Go.Proofs.Ytjmgohlepglkoab.steerNum Go.Proofs.Ytjmgohlepglkoab.steering2 Go.Proofs.Ytjmgohlepglkoab.grid Go.Proofs.Ytjmgohlepglkoab.twinNum Go.Proofs.Ytjmgohlepglkoab.twinI Go.Proofs.Ytjmgohlepglkoab.r8 Go.Proofs.Ytjmgohlepglkoab.sameC Go.Proofs.Ytjmgohlepglkoab.lineI

theorem build_dir (w : World) (x : Int) : (Instr.build 27 #[(0, .int .i64 x)]).run Try.prog w = .ok (.agg #[.int .i64 x, .int .i64 0]) w := run_build w 27 _ _ (by kernel_rfl)
theorem dir_line {u : Int} (h1 : -64 ≤ u) (h2 : u ≤ 64) : dirB u 0 = true := by
  have := sq_bd u h1 h2
  unfold dirB
  simp
  omega
theorem stl_line (s u : Int) : stl (line4 s) u 0 = [phz (0 * s * u + 0 * 0), phz (1 * s * u + 0 * 0), phz (2 * s * u + 0 * 0), phz (3 * s * u + 0 * 0)] := rfl
theorem mul_abs {a b : Int} {m n : Nat} (h1 : a.natAbs ≤ m) (h2 : b.natAbs ≤ n) : (a * b).natAbs ≤ m * n := by
  rw [Int.natAbs_mul]; exact Nat.mul_le_mul h1 h2
theorem twin_mod {k s u v : Int} (h : ((v - u) * s).tmod 4096 = 0) : (k * s * v + 0 * 0) % 4096 = (k * s * u + 0 * 0) % 4096 := by
  have hd : (4096 : Int) ∣ (v - u) * s := Int.dvd_of_tmod_eq_zero h
  obtain ⟨c, hc⟩ := hd
  have e : k * s * v + 0 * 0 = k * s * u + 0 * 0 + 4096 * (k * c) := by
    have : k * s * v = k * s * u + k * ((v - u) * s) := by
      rw [Int.sub_mul, Int.mul_sub, Int.mul_comm v s, Int.mul_comm u s, ← Int.mul_assoc, ← Int.mul_assoc]
      omega
    rw [this, hc, Int.mul_left_comm k 4096 c]
    omega
  rw [e, Int.add_mul_emod_self_left]
theorem ksu {k s u : Int} (hk : k.natAbs ≤ 3) (hs : s.natAbs ≤ 200) (hu : u.natAbs ≤ 64) : (k * s * u + 0 * 0).natAbs ≤ 524288 := by
  have := mul_abs (mul_abs hk hs) hu
  omega
theorem twin_stl {s u v : Int} (hs : s.natAbs ≤ 200) (hu : u.natAbs ≤ 64) (hv : v.natAbs ≤ 64) (h : ((v - u) * s).tmod 4096 = 0) : stl (line4 s) v 0 = stl (line4 s) u 0 := by
  rw [stl_line, stl_line]
  rw [phz_per (ksu (k := 0) (by decide) hs hv) (ksu (k := 0) (by decide) hs hu) (twin_mod h), phz_per (ksu (k := 1) (by decide) hs hv) (ksu (k := 1) (by decide) hs hu) (twin_mod h),
    phz_per (ksu (k := 2) (by decide) hs hv) (ksu (k := 2) (by decide) hs hu) (twin_mod h), phz_per (ksu (k := 3) (by decide) hs hv) (ksu (k := 3) (by decide) hs hu) (twin_mod h)]
theorem stl_le (s u : Int) (k : Nat) : (((stl (line4 s) u 0).getD k (0, 0)).1 : Int) ≤ 4294967295 ∧ (((stl (line4 s) u 0).getD k (0, 0)).2 : Int) ≤ 4294967295 := by
  by_cases hk : k < (stl (line4 s) u 0).length
  · have hm : (stl (line4 s) u 0).getD k (0, 0) ∈ stl (line4 s) u 0 := by
      rw [show (stl (line4 s) u 0).getD k (0, 0) = (stl (line4 s) u 0)[k] by simp [List.getD, hk]]
      exact List.getElem_mem hk
    obtain ⟨p, _, hp⟩ := List.mem_map.1 hm
    rw [← hp]
    exact phz_le _
  · rw [show (stl (line4 s) u 0).getD k (0, 0) = (0, 0) by simp [List.getD, hk]]
    decide

attribute [local go_sem] build_dir
set_option maxHeartbeats 4000000 in
set_option maxRecDepth 100000 in
theorem law (A A' : Option Addr) (c d : Nat) (z y : List Int) (w : World) (hz : Byt z) (hm : z.length ≤ 9223372036854775807) (hy : y.length ≤ 9223372036854775807) (hr : Rd w w.heap.size A z.length (bt z)) :
    Calls Try.prog 13 #[.slice A z.length c, .slice A' y.length d] w fun e w' => e = .returned (.bool true) ∧ Below w.heap.size w w' := by
  by_cases hl : z.length ≤ 48 ∧ y.length ≤ 48
  · obtain ⟨b1, b2⟩ := r8_bd hz 0 200 (by decide)
    obtain ⟨b3, b4⟩ := r8_bd hz 1 129 (by decide)
    have H1 := fun w hr => r8_at A c w.heap.size z 0 200 w (by omega) (by decide) (by decide) hz hr
    have H2 := fun w hr => r8_at A c w.heap.size z 1 129 w (by omega) (by decide) (by decide) hz hr
    have e0 : ((0 : Nat) : Int) = 0 := rfl
    have e1 : ((1 : Nat) : Int) = 1 := rfl
    rw [e0] at H1
    rw [e1] at H2
    clear e0 e1
    generalize r8 z 0 200 = s0 at *
    generalize r8 z 1 129 = u0 at *
    obtain ⟨s, hs⟩ : ∃ s, 1 + s0 = s := ⟨_, rfl⟩
    obtain ⟨u, hu⟩ : ∃ u, u0 - 64 = u := ⟨_, rfl⟩
    have s1 : 1 ≤ s := by omega
    have s2 : s ≤ 200 := by omega
    have u1 : -64 ≤ u := by omega
    have u2 : u ≤ 64 := by omega
    have HTW := Lib.hid (fun w => impl_tw s u w s1 (by omega) u1 u2)
    have HLI := line_impl 4 s
    rw [line4_is s s1 (by omega)] at HLI
    have HL := Lib.hid HLI
    have hst : ∀ v : Int, -64 ≤ v → v ≤ 64 → Sted 20 (line4 s) v 0 (stl (line4 s) v 0) true := fun v v1 v2 => by
      have := impl_c (line4 s) v 0
      unfold steR at this
      rw [if_pos ⟨line4_vp s s1 (by omega), dir_line v1 v2⟩] at this
      exact this
    have HST := Lib.hid hst
    have hnx := fun j hj => tw_next s u j hj
    have HNX := Lib.hid hnx
    have hsu := fun j => tw_succ s u j
    have HSU := Lib.hid hsu
    have ht0 : (tw s u 0).length = 0 := rfl
    have htl : (tw s u 129).length ≤ 129 := tw_len s u 129
    have hjl := fun k => tw_len s u k
    have HJL := Lib.hid hjl
    have h4 : ∀ v, (stl (line4 s) v 0).length = 4 := fun v => rfl
    have H4 := Lib.hid h4
    have HTS := Lib.hid (fun v (v1 : -64 ≤ v) (v2 : v ≤ 64) h => twin_stl (s := s) (u := u) (v := v) (by omega) (by omega) (by omega) h)
    have HLE := Lib.hid (fun k => stl_le s u k)
    clear HLI hst hnx hsu hjl h4
    generalize tw s u = TW at *
    go_enter Try.func13, Try.ntmps13
    go_wp2_with fail
    refine (long_no _ _ _ _ _ _ _ hl.1 hl.2).mono ?_
    rintro e w' ⟨rfl, rfl⟩
    go_wp2_with fail
    refine (H1 _ hr).mono ?_
    rintro e w' ⟨rfl, rfl⟩
    go_wp2_with fail
    refine (H2 _ hr).mono ?_
    rintro e w' ⟨rfl, rfl⟩
    clear H1 H2
    go_wp2_with fail
    refine (HTW.out _).mono ?_
    rintro e w1 ⟨A1, c1, rfl, R1, g1⟩
    go_wp2_with fail
    refine (HL.out _).mono ?_
    rintro e w2 ⟨A2, c2, rfl, ho2, g2⟩
    have R2 := Rd.of_lst ho2 rfl
    have n4 : (line4 s).length ≤ 9223372036854775807 := by simp [line4]
    go_wp2_with fail
    refine (HST.out u u1 u2 _ _ _ _ n4 R2 (Nat.le_refl _)).mono ?_
    rintro e w3 ⟨A3, c3, rfl, ho3, g3⟩
    have R3 := Rd.of_lst ho3 (Nat.mul_one _).symm
    rw [H4.out u] at R3
    rw [H4.out u]
    have g03 := (g1.trans g2).trans g3
    have R1c := (R1.kept0 (g2.trans g3) (Nat.le_refl _)).mono (g2.trans g3).size
    have R2c := (R2.kept0 g3 (Nat.le_refl _)).mono g3.size
    clear R1 R2 ho2 ho3 g1 g2 g3 HTW HL
    go_wp2_with fail
    go_loopw [13, 14] (fun k v wr => ∃ j : Nat, j ≤ 129 ∧ v = .int .i64 ((j : Int) - 64) ∧ k = .int .i64 ((TW j).length : Nat) ∧ w3.grownBy wr none) (fun _ v _ => (65 - intOf v).toNat)
    case atStart => exact ⟨0, by omega, rfl, by rw [ht0]; rfl, World.grownBy.refl _ _⟩
    case round =>
      obtain ⟨j, hj, rfl, rfl, hg⟩ := hrel
      by_cases hlt : j < 129
      · obtain ⟨n1, n2⟩ := HNX.out j hlt
        have hs := HSU.out j
        have hjl := HJL.out j
        have R1w := R1c.kept0 hg (Nat.le_refl _)
        obtain ⟨pb1, pb2⟩ := twinI.prod_bd s u ((j : Int) - 64) s1 (by omega) u1 u2 (by omega) (by omega)
        have v1 : -64 ≤ (j : Int) - 64 := by omega
        have v2 : (j : Int) - 64 ≤ 64 := by omega
        by_cases hz : ((((j : Int) - 64) - u) * s).tmod 4096 = 0
        · obtain ⟨hk, hx⟩ := n1 hz
          obtain ⟨ad, rfl, _, hc⟩ := R1w.at_ hk
          rw [ints_getD _ _ hk, hx] at hc
          have hts := HTS.out _ v1 v2 hz
          have hst := HST.out _ v1 v2
          rw [hts] at hst
          rw [if_pos hz] at hs
          have HSJ := Lib.hid hs
          have HSV := Lib.hid hst
          have hk' : ((TW j).length : Int) < (TW 129).length := by omega
          have R2w := (R2c.kept0 hg (Nat.le_refl _)).mono hg.size
          clear n1 n2 hs hst hts hx R1w
          go_wp2_with fail
          refine (HSV.out _ _ _ _ n4 R2w (Nat.le_refl _)).mono ?_
          rintro e w4 ⟨A4, c4, rfl, ho4, g4⟩
          have R4 := Rd.of_lst ho4 (Nat.mul_one _).symm
          rw [H4.out u] at R4
          rw [H4.out u]
          have R3w := R3.kept0 (hg.trans g4) (Nat.le_refl _)
          have h3w := (hg.trans g4).size
          go_wp2_with fail
          go_loopw [18] (fun i wq => ∃ m : Nat, m ≤ 4 ∧ i = .int .i64 m ∧ w4.grownBy wq none) (fun i _ => 4 - (intOf i).toNat)
          case atStart => exact ⟨0, by omega, rfl, World.grownBy.refl _ _⟩
          case round =>
            obtain ⟨m, hm, rfl, hq⟩ := hrel
            by_cases hm4 : m < 4
            · obtain ⟨xd, rfl, _, hc1⟩ := (R4.kept0 hq (Nat.le_refl _)).at_ hm4
              obtain ⟨yd, rfl, _, hc2⟩ := (R3w.kept0 hq (by omega)).at_ hm4
              obtain ⟨l1, l2⟩ := HLE.out m
              unfold ccell at hc1 hc2
              generalize ((stl (line4 s) u 0).getD m (0, 0)).1 = x1 at *
              generalize ((stl (line4 s) u 0).getD m (0, 0)).2 = x2 at *
              have m0 : (0 : Int) ≤ m := by omega
              have m1 : (m : Int) < 4 := by omega
              go_wp2
              go_region_held3 (fun w' => w'.cell? (xd.add m) = some (.complex .f32 x1 x2) ∧ w'.cell? (yd.add m) = some (.complex .f32 x1 x2) ∧ w4.grownBy w' none)
                (first
                  | (go_split_ands
                     exact ⟨hg5.cell (by assumption) (by simp), hg5.cell (by assumption) (by simp), World.grownBy.trans (by assumption) hg5⟩)
                  | exact ⟨hc1, hc2, ⟨hq.os, hq.tape, hq.output, hq.size, hq.block⟩⟩)
                ((go_at_call 27; refine (same_c _ _ _ l1 l2).mono ?_; rintro e w' ⟨rfl, hg5⟩))
              obtain ⟨_, _, hfin⟩ : (w'.cell? (xd.add m) = some (.complex .f32 x1 x2) ∧ w'.cell? (yd.add m) = some (.complex .f32 x1 x2) ∧ w4.grownBy w' none) := by assumption
              go_wp2
              go_roundw
              case rel => exact ⟨m + 1, by omega, by go_num, hfin⟩
              case measure => simp [intOf]; omega
            · obtain rfl : m = 4 := by omega
              go_wp2
              go_roundw
              case rel => exact ⟨j + 1, by omega, congrArg (Value.int .i64) (by omega), by rw [HSJ.out, List.length_append]; go_num, (hg.trans g4).trans hq⟩
              case measure => simp [intOf]; omega
        · rw [if_neg hz, List.append_nil] at hs
          have HSJ := Lib.hid hs
          by_cases hk : (TW j).length < (TW 129).length
          · have hx := n2 hz hk
            obtain ⟨ad, rfl, _, hc⟩ := R1w.at_ hk
            rw [ints_getD _ _ hk] at hc
            have hk' : ((TW j).length : Int) < (TW 129).length := by omega
            clear n1 n2 hs R1w
            generalize (TW 129)[(TW j).length] = x at *
            go_wp2_with fail
            go_roundw
            case rel => exact ⟨j + 1, by omega, congrArg (Value.int .i64) (by omega), by rw [HSJ.out], hg⟩
            case measure => simp [intOf]; omega
          · have hk' : ((TW 129).length : Int) ≤ (TW j).length := by omega
            clear n1 n2 hs R1w
            go_wp2_with fail
            go_roundw
            case rel => exact ⟨j + 1, by omega, congrArg (Value.int .i64) (by omega), by rw [HSJ.out], hg⟩
            case measure => simp [intOf]; omega
      · obtain rfl : j = 129 := by omega
        go_wp2_with fail
        go_ret
        exact ⟨rfl, gb_below (g03.trans hg)⟩
  · have hl' : 48 < z.length ∨ 48 < y.length := by omega
    go_enter Try.func13, Try.ntmps13
    go_wp2_with fail
    refine (long_yes _ _ _ _ _ _ _ hl' hm hy).mono ?_
    rintro e w' ⟨rfl, rfl⟩
    go_wp2_with fail
    go_ret
    exact ⟨rfl, Below.refl _ _⟩

theorem walk (a0 : Option Addr) (len0 cap0 : Nat) (z0 : List Int) (a1 : Option Addr) (len1 cap1 : Nat) (z1 : List Int) (w : World) (l0 : z0.length = len0) (m0 : len0 ≤ maxLen) (w0 : ∀ x ∈ z0, (Lit.int .u8 x).wf = true) (r0 : Rd w w.heap.size a0 len0 (fun j => .int .u8 (z0.getD j 0)))
    (l1 : z1.length = len1) (m1 : len1 ≤ maxLen) (w1 : ∀ x ∈ z1, (Lit.int .u8 x).wf = true) (r1 : Rd w w.heap.size a1 len1 (fun j => .int .u8 (z1.getD j 0))) :
    Calls Try.prog 13 #[.slice a0 len0 cap0, .slice a1 len1 cap1] w fun e w' => e = .returned (.bool true) ∧ Below w.heap.size w w' := by
  subst l0 l1
  unfold maxLen at m0 m1
  exact law a0 a1 cap0 cap1 z0 z1 w (Byt.of w0) (by omega) (by omega) r0

set_option maxRecDepth 100000 in
theorem lifted (os : Os) (started : os.Started) (H : Type) (enc : TypeId × Value → H) :
    ReturnsInHanded {} Try.checked os 13 .any (Rows.fnTwinsSpec.pre6 enc Try.prog Try.f13 Rows.fnTwinsRow.domain false) (Rows.fnTwinsSpec.post enc Try.prog Try.f13 false true false false) := by
  refine returnsInHanded_of_change (C := Try.checked) own started (by kernel_rfl) Try.func13
    (ChangeSpec.witness6 (enc := enc) (C := Try.checked) false ⟨#[], #[.slice none 0 0, .slice none 0 0], []⟩ 8 (by kernel_rfl) (by kernel_rfl) (by kernel_rfl) (by kernel_rfl)) ?_
  intro W base args ds gs before hval0 hW hcnd _
  have hval : ∀ (j : Nat) t v, Try.f13.params[j]? = some t → args[j]? = some v → Value.okWide Try.prog W .any base t v := hval0
  have hW' := hW
  obtain ⟨p, q, hA0, hV, rfl, hfz, hnd⟩ := hW
  have hA : DataW.TrodAll enc Try.prog W 0 (fun _ => true) true Try.f13.params.toList args.toList ds p := hA0
  rw [Try.params13] at hA hval
  obtain ⟨v0, vs0, d0, ds0, p0, q0, hargs, rfl, rfl, h0, r0⟩ := trodAll_cons hA
  obtain ⟨v1, vs1, d1, ds1, p1, q1, rfl, rfl, rfl, h1, r1⟩ := trodAll_cons r0
  obtain ⟨rfl, rfl, rfl⟩ := trodAll_nil r1
  obtain rfl : args = #[v0, v1] := by cases args; simp_all
  obtain ⟨rfl, rfl⟩ := trodVars_none hV
  obtain ⟨a0, len0, cap0, rfl⟩ := okWide_slice Try.underlying22 (hval 0 22 v0 rfl rfl)
  have k0 := h0
  have lt0 : ∀ x ∈ p0, x.block < W.heap.size := by obtain ⟨m, hm⟩ := k0; exact DataW.trod_lt m _ _ _ hm
  obtain ⟨z0, l0, m0, w0, r0'⟩ := opened_ints Try.underlying22 Try.underlying5 (by kernel_rfl) k0
  obtain ⟨a1, len1, cap1, rfl⟩ := okWide_slice Try.underlying22 (hval 1 22 v1 rfl rfl)
  have k1 := h1
  have lt1 : ∀ x ∈ p1, x.block < W.heap.size := by obtain ⟨m, hm⟩ := k1; exact DataW.trod_lt m _ _ _ hm
  obtain ⟨z1, l1, m1, w1, r1'⟩ := opened_ints Try.underlying22 Try.underlying5 (by kernel_rfl) k1
  clear hA0 hval0
  refine (walk a0 len0 cap0 z0 a1 len1 cap1 z1 W l0 m0 w0 r0' l1 m1 w1 r1').mono fun e W' ⟨he, bel⟩ => ?_
  subst he
  exact ⟨_, rfl, _, _, _, [], _, [], hW', trodAll_mk1 (shut_bool Try.underlying4 _), (trodAll_cons_mk (Below.trod laidOut (by kernel_rfl) (of_decide_eq_true (by kernel_rfl)) k0 bel lt0) (trodAll_cons_mk (Below.trod laidOut (by kernel_rfl) (of_decide_eq_true (by kernel_rfl)) k1 bel lt1) trodAll_mk0)), rfl, bel.frame _, fun h => by cases h⟩

theorem over : Rows.fnTwinsRow.holds Try.pinned (OpenSpec.ofChange Rows.fnTwinsSpec) :=
  OpenClaim.holds_of_wide 13 Try.f13 rfl rfl rfl rfl rfl rfl rfl ⟨rfl, rfl, rfl, rfl, rfl⟩ rfl rfl rfl rfl rfl (by kernel_rfl) Try.func13 (by kernel_rfl)
    (of_decide_eq_true (by kernel_rfl)) (by unfold Func.isWrapper; first | (rw [if_pos (by decide +kernel)]; kernel_rfl) | (rw [if_neg (by decide +kernel)]; exact ⟨rfl, rfl⟩))
    (fun os started H enc _ => lifted os started H enc)

theorem proved : Rows.FnTwinsSaid := over
#print axioms proved
end Go.Proofs.Ytjmgohlepglkoab.fnTwins
