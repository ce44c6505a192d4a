/- The law's own look at runs finds those that are told. -/
import Derived.Test.YtpeclgfopincbaaRows
import Derived.Test.YtpeclgfopincbaaSlc
import Derived.Test.YtpeclgfopincbaaSmall
import Derived.Test.YtpeclgfopincbaaListI
import Derived.Test.YtpeclgfopincbaaFloatAll
import Derived.Test.YtpeclgfopincbaaFWalk
import Derived.Test.YtpeclgfopincbaaCut
import Derived.Test.YtpeclgfopincbaaListF
import Derived.Test.YtpeclgfopincbaaRuns
import Derived.Test.YtpeclgfopincbaaRuns2
import Derived.Test.YtpeclgfopincbaaMarkF
import Derived.WalkKit
import Derived.ProofKit
import Derived.OpenShut
import Derived.ShutString
import Derived.ChangeOld
import Derived.Below
import Derived.Lib.Hide
import Derived.BigQuiet
import Derived.Deep.QuietTactic
import Derived.WalkLawsBesides
import Derived.Outline
import Derived.Deep.RegionWith
import Derived.Deep.LoopGhost
import Derived.Deep.CutRange
import Derived.Deep.CutBlock
import Derived.Deep.DeepCutAuto
namespace Go.Proofs.Ytpeclgfopincbaa.runsB
open Go.ChangeShapes Go.WideShapes Go.ChangeAt Go.RowKit
open Go.ChangeMaps (open_string shut_string)
set_option linter.unusedVariables false
open Go Ieee Go.RowKit
open Go.Proofs.Ytpeclgfopincbaa.slc Go.Proofs.Ytpeclgfopincbaa.small Go.Proofs.Ytpeclgfopincbaa.listI Go.Proofs.Ytpeclgfopincbaa.floats Go.Proofs.Ytpeclgfopincbaa.cut Go.Proofs.Ytpeclgfopincbaa.listF Go.Proofs.Ytpeclgfopincbaa.runs Go.Proofs.Ytpeclgfopincbaa.runs2 Go.Proofs.Ytpeclgfopincbaa.markF

theorem hi_run {r : Nat → Nat → Bool} : ∀ (f j m : Nat), j ≤ m → m < hi r f j → r m (m + 1) = true
  | 0, j, m, h1, h2 => by
    have : hi r 0 j = j := rfl
    omega
  | f + 1, j, m, h1, h2 => by
    rw [hi_succ] at h2
    by_cases hr : r j (j + 1) = true
    · rw [if_pos hr] at h2
      by_cases e : j = m
      · subst e; exact hr
      · exact hi_run f (j + 1) m (by omega) h2
    · rw [if_neg hr] at h2
      omega
theorem hi_stop {r : Nat → Nat → Bool} : ∀ (f j : Nat), hi r f j < j + f → r (hi r f j) (hi r f j + 1) = false
  | 0, j, h => by
    have : hi r 0 j = j := rfl
    omega
  | f + 1, j, h => by
    rw [hi_succ] at h ⊢
    by_cases hr : r j (j + 1) = true
    · rw [if_pos hr] at h ⊢
      exact hi_stop f (j + 1) (by omega)
    · rw [if_neg hr] at h ⊢
      simpa using hr
/-- A run from i to K. -/
theorem run_is (x : Nat → Nat) (n i : Nat) (hi' : i < n) : i ≤ runK x n i ∧ runK x n i < n ∧ (∀ m, i ≤ m → m < runK x n i → (FloatKind.f32.format.order (x (m + 1)) (x i) == some .eq) = true) ∧ (runK x n i + 1 < n → (FloatKind.f32.format.order (x (runK x n i + 1)) (x i) == some .eq) = false) := by
  have hb := hi_bd (r := runR x i) (n - 1 - i) i
  refine ⟨hb.1, ?_, fun m h1 h2 => hi_run (r := runR x i) _ _ m h1 h2, fun h => ?_⟩
  · unfold runK; omega
  · exact hi_stop (r := runR x i) (n - 1 - i) i (by unfold runK at h; omega)
theorem drop_cons {ys r : List Int} {m : Nat} {a : Int} (h : ys.drop m = a :: r) : ∃ hm : m < ys.length, ys[m] = a ∧ ys.drop (m + 1) = r := by
  have hm : m < ys.length := by
    rcases Nat.lt_or_ge m ys.length with h1 | h1
    · exact h1
    · rw [List.drop_eq_nil_of_le h1] at h; cases h
  refine ⟨hm, ?_⟩
  rw [List.drop_eq_getElem_cons hm] at h
  injection h with h1 h2
  exact ⟨h1, h2⟩
theorem cls_get (ys : List Int) (m : Nat) (h : m < ys.length) : cls ys m = .int .i64 ys[m] := by unfold cls ints; simp [h]

set_option maxHeartbeats 4000000 in
set_option maxRecDepth 100000 in
theorem runs_c (s : Bool) (ad : Addr) (A2 : Option Addr) (c c2 B n : Nat) (x : Nat → Nat) (w : World) (hn : n ≤ 129) (hnan : ∀ i, i < n → isNaN .f32 (x i) = false) (hB : B ≤ w.heap.size) (ha : Rd w B (some ad) n (fl x)) (hb : Rd w B A2 (runs s x n n 0).length (cls (runs s x n n 0))) :
    Calls Try.prog 30 #[.slice (some ad) n c, .slice A2 (runs s x n n 0).length c2, .bool s] w fun e w' => e = .returned (.bool true) ∧ w.grownBy w' none := by
  have hlen := runs_len s x n n 0
  have h0 : (runs s x n n 0).drop 0 = runs s x n n 0 := rfl
  generalize hys : runs s x n n 0 = ys at *
  rw [← hys] at h0
  have H0 := Lib.hid (show ys.drop 0 = runs s x n n 0 from hys.symm ▸ rfl)
  clear h0 hys
  go_enter Try.func30, Try.ntmps30
  go_wp2_with fail
  go_loopw [7, 8] (fun at_ i wr => ∃ m i0 f : Nat, i = .int .i64 i0 ∧ at_ = .int .i64 m ∧ i0 ≤ n ∧ n - i0 ≤ f ∧ m ≤ ys.length ∧ ys.drop m = runs s x n f i0 ∧ w.grownBy wr none) (fun _ i _ => (200 - intOf i).toNat)
  case atStart => exact ⟨0, 0, n, rfl, rfl, Nat.zero_le _, by omega, Nat.zero_le _, H0.out, World.grownBy.refl _ _⟩
  case round =>
    obtain ⟨m, i, f, rfl, rfl, hi0, hf, hm, hd, hg⟩ := hrel
    by_cases hlt : i < n
    · obtain ⟨K1, K2, K3, K4⟩ := run_is x n i hlt
      have hnn := hnan i hlt
      obtain ⟨f', hf', hst⟩ := runs_step (s := s) (x := x) (n := n) (f := f) (i := i) hlt hf rfl K1
      rw [hst] at hd
      have HD := Lib.hid hd
      have HK := Lib.hid K3
      have HK4 := Lib.hid K4
      generalize runK x n i = K at *
      clear hst hd K3 K4 hf
      have HN := Lib.hid hnn
      clear hnn
      have hli : (i : Int) < n := by omega
      have HG0 := Lib.hid hg
      have HHB := Lib.hid hb
      have HAA := Lib.hid (fun (w2 : World) (g : w.grownBy w2 none) (j : Nat) (hj : j < n) => show w2.cell? (ad.add j) = some (.float .f32 (x j)) by
        obtain ⟨ad2, e2, _, c2⟩ := (ha.kept0 g hB).at_ hj
        cases e2
        exact c2)
      have b3 : (0 : Int) ≤ (i : Int) := by omega
      clear hg hb ha
      go_upto_block 2 with fail
      go_cut [9] (fun k wx => k = .int .i64 (K : Int) ∧ w.grownBy wx none)
      case first =>
        go_wp2_with fail
        go_loopw [9] (fun k wi => ∃ k0 : Nat, i ≤ k0 ∧ k0 ≤ K ∧ k = .int .i64 k0 ∧ w.grownBy wi none) (fun k _ => (200 - intOf k).toNat)
        case atStart => exact ⟨i, Nat.le_refl _, K1, rfl, HG0.out⟩
        case round =>
          obtain ⟨k, hk0, hk1, rfl, hgk⟩ := hrel
          have ci := HAA.out wr hgk i hlt
          by_cases hkK : k < K
          · have ck : wr.cell? ⟨ad.block, ad.off + (k + 1), none⟩ = some (.float .f32 (x (k + 1))) := HAA.out wr hgk (k + 1) (by omega)
            have b1 : (k : Int) + 1 < n := by omega
            have b2 : (0 : Int) ≤ (k : Int) + 1 := by omega
            have b4 : IntKind.i64.wrap ((k : Int) + 1) = (k : Int) + 1 := by rw [IntKind.wrap_i64]; omega
            have b5 : k + 1 < n := by omega
            have hq := HK.out k hk0 hkK
            go_wp2_with fail
            go_quiet (fail)
            go_wp2_with fail
            go_roundw
            case rel => exact ⟨k + 1, by omega, by omega, by go_num, hgk.trans (gb_drewN _ _ _)⟩
            case measure => simp [intOf]; omega
          · obtain rfl : K = k := by omega
            by_cases hKn : K + 1 < n
            · have cK : wr.cell? ⟨ad.block, ad.off + (K + 1), none⟩ = some (.float .f32 (x (K + 1))) := HAA.out wr hgk (K + 1) hKn
              have b1 : (K : Int) + 1 < n := by omega
              have b2 : (0 : Int) ≤ (K : Int) + 1 := by omega
              have b4 : IntKind.i64.wrap ((K : Int) + 1) = (K : Int) + 1 := by rw [IntKind.wrap_i64]; omega
              have hq := HK4.out hKn
              go_wp2_with fail
              go_quiet (fail)
              go_wp2_with fail
              go_meet
              exact ⟨rfl, hgk.trans (gb_drewN _ _ _)⟩
            · have k1 : decide ((K : Int) + 1 < n) = false := decide_eq_false (by omega)
              have k2 : decide (K + 1 < n) = false := decide_eq_false (by omega)
              go_wp2_with fail
              go_quiet (fail)
              go_wp2_with fail
              go_meet
              exact ⟨rfl, hgk.trans (gb_drewN _ _ _)⟩
      case rest =>
        obtain ⟨rfl, hgc⟩ := hcut
        have HGC := Lib.hid hgc
        clear hgc
        -- the number before the run
        obtain ⟨bf, hbf⟩ : ∃ bf : Bool, (decide (i = 0) || near s x i (i - 1)) = bf := ⟨_, rfl⟩
        have HBF := Lib.hid hbf
        clear hbf
        go_upto_region 7 with fail
        go_cut [10] (fun v wx => v = .bool bf ∧ w.grownBy wx none)
        case first =>
          generalize wc = wr at *
          have hgw := HGC.out
          have ci := HAA.out wr hgw i hlt
          have hb2 := HBF.out
          clear HBF
          by_cases hz : i = 0
          · have j1 : ((i : Int) == 0) = true := by simp [hz]
            obtain rfl : bf = true := by rw [← hb2]; simp [hz]
            clear hz hb2
            cases s
            all_goals
              go_wp2_with fail
              go_quiet (fail)
              go_wp2_with fail
              go_meet
              exact ⟨rfl, hgw.trans (gb_drewN _ _ _)⟩
          · obtain ⟨j, hj⟩ : ∃ j, i = j + 1 := ⟨i - 1, by omega⟩
            have cj := HAA.out wr hgw j (by omega)
            have j1 : ((i : Int) == 0) = false := by simp; omega
            have j2 : (i : Int) - 1 = (j : Int) := by omega
            have j3 : IntKind.i64.wrap (j : Int) = (j : Int) := by rw [IntKind.wrap_i64]; omega
            have j4 : (0 : Int) ≤ (j : Int) := by omega
            have j5 : (j : Int) < n := by omega
            rw [show decide (i = 0) = false from decide_eq_false hz, Bool.false_or, show i - 1 = j by omega] at hb2
            unfold near at hb2
            clear hz hj
            cases s
            all_goals
              simp only [Bool.false_eq_true, if_false, if_true] at hb2
              cases bf
              all_goals
                go_wp2_with fail
                go_quiet (fail)
                go_wp2_with fail
                go_meet
                exact ⟨rfl, hgw.trans (gb_drewN _ _ _)⟩
        case rest =>
          obtain ⟨rfl, hgc⟩ := hcut
          have HGC := Lib.hid hgc
          clear hgc
          obtain ⟨bh, hbh⟩ : ∃ bh : Bool, (decide (K + 1 = n) || near s x i (K + 1)) = bh := ⟨_, rfl⟩
          have HBH := Lib.hid hbh
          have HFV := Lib.hid (show fine s x n i K = (bf && bh) by unfold fine; rw [HBF.out, hbh])
          clear hbh HBF
          go_upto_region 8 with fail
          go_cut [11] (fun v wx => v = .bool bh ∧ w.grownBy wx none)
          case first =>
            generalize wc = wr at *
            have hgw := HGC.out
            have ci := HAA.out wr hgw i hlt
            have hb2 := HBH.out
            clear HBH HFV
            by_cases hz : K + 1 = n
            · have j1 : ((K : Int) + 1 == (n : Int)) = true := by simp; omega
              obtain rfl : bh = true := by rw [← hb2]; simp [hz]
              clear hz hb2
              cases s
              all_goals
                go_wp2_with fail
                go_quiet (fail)
                go_wp2_with fail
                go_meet
                exact ⟨rfl, hgw.trans (gb_drewN _ _ _)⟩
            · have hKn : K + 1 < n := by omega
              have cK : wr.cell? ⟨ad.block, ad.off + (K + 1), none⟩ = some (.float .f32 (x (K + 1))) := HAA.out wr hgw (K + 1) hKn
              have j1 : ((K : Int) + 1 == (n : Int)) = false := by simp; omega
              have b1 : (K : Int) + 1 < n := by omega
              have b2 : (0 : Int) ≤ (K : Int) + 1 := by omega
              have b4 : IntKind.i64.wrap ((K : Int) + 1) = (K : Int) + 1 := by rw [IntKind.wrap_i64]; omega
              rw [show decide (K + 1 = n) = false from decide_eq_false hz, Bool.false_or] at hb2
              unfold near at hb2
              clear hz
              cases s
              all_goals
                simp only [Bool.false_eq_true, if_false, if_true] at hb2
                cases bh
                all_goals
                  go_wp2_with fail
                  go_quiet (fail)
                  go_wp2_with fail
                  go_meet
                  exact ⟨rfl, hgw.trans (gb_drewN _ _ _)⟩
          case rest =>
            obtain ⟨rfl, hgc⟩ := hcut
            have HGC := Lib.hid hgc
            clear hgc HBH
            have HL : (bf && bh) = true → ∃ hm2 : m < ys.length, ys[m] = (i : Int) ∧ ys.drop (m + 1) = runs s x n f' (K + 1) := fun h => by
              have h2 := HD.out
              rw [if_pos ⟨HN.out, by rw [HFV.out]; exact h⟩] at h2
              exact drop_cons h2
            have HM : (bf && bh) = false → ys.drop m = runs s x n f' (K + 1) := fun h => by
              have h2 := HD.out
              rw [if_neg (fun h3 => by have := h3.2; rw [HFV.out, h] at this; cases this)] at h2
              exact h2
            have HLL := Lib.hid HL
            have HMM := Lib.hid HM
            clear HL HM HFV HD
            generalize wc = wr at *
            by_cases hbb : (bf && bh) = true
            · obtain ⟨rfl, rfl⟩ : bf = true ∧ bh = true := by simpa using hbb
              obtain ⟨hm2, hy, hdr⟩ := HLL.out rfl
              obtain ⟨ad2, rfl, _, cy0⟩ := (HHB.out.kept0 HGC.out hB).at_ hm2
              have cy : wr.cell? (ad2.add m) = some (.int .i64 (i : Int)) := by rw [← hy, ← cls_get ys m hm2]; exact cy0
              have m1 : (m : Int) < ys.length := by omega
              have m2 : decide ((ys.length : Int) ≤ (m : Int)) = false := decide_eq_false (by omega)
              have m3 : (0 : Int) ≤ (m : Int) := by omega
              have HDR := Lib.hid hdr
              clear hy cy0 hdr HLL HMM hbb
              go_wp2_with fail
              go_roundw
              case rel => exact ⟨m + 1, K + 1, f', by go_num, by go_num, by omega, by omega, by omega, HDR.out, HGC.out⟩
              case measure => simp [intOf]; omega
            · have hbb2 : (bf && bh) = false := by simpa using hbb
              have HDR := Lib.hid (HMM.out hbb2)
              clear HLL HMM hbb
              cases bf
              · go_wp2_with fail
                go_roundw
                case rel => exact ⟨m, K + 1, f', by go_num, rfl, by omega, by omega, by omega, HDR.out, HGC.out⟩
                case measure => simp [intOf]; omega
              · obtain rfl : bh = false := by simpa using hbb2
                go_wp2_with fail
                go_roundw
                case rel => exact ⟨m, K + 1, f', by go_num, rfl, by omega, by omega, by omega, HDR.out, HGC.out⟩
                case measure => simp [intOf]; omega
    · obtain rfl : i = n := by omega
      rw [runs_done (Nat.le_refl _)] at hd
      obtain rfl : m = ys.length := by
        have := congrArg List.length hd
        rw [List.length_drop] at this
        simp at this
        omega
      have l1 : ((ys.length : Int) == (ys.length : Int)) = true := by simp
      clear hd
      go_wp2_with fail
      go_ret
      exact ⟨by simp, hg⟩

end Go.Proofs.Ytpeclgfopincbaa.runsB
