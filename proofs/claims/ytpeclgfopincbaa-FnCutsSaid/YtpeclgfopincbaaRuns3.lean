/- LobesOf and DipsOf, by the model. -/
import Derived.Test.YtpeclgfopincbaaRows
import Derived.Test.YtpeclgfopincbaaSlc
import Derived.Test.YtpeclgfopincbaaSmall
import Derived.Test.YtpeclgfopincbaaListI
import Derived.Test.YtpeclgfopincbaaFloatAll
import Derived.Test.YtpeclgfopincbaaFWalk
import Derived.Test.YtpeclgfopincbaaCut
import Derived.Test.YtpeclgfopincbaaListF
import Derived.Test.YtpeclgfopincbaaPeak
import Derived.Test.YtpeclgfopincbaaReach
import Derived.Test.YtpeclgfopincbaaRuns
import Derived.Test.YtpeclgfopincbaaRuns2
import Derived.WalkKit
import Derived.ProofKit
import Derived.OpenShut
import Derived.ShutString
import Derived.ChangeOld
import Derived.Below
import Derived.Lib.Hide
import Derived.BigQuiet
import Derived.Deep.QuietTactic
import Derived.WalkLawsBesides
import Derived.Outline
import Derived.Deep.LoopGhost
namespace Go.Proofs.Ytpeclgfopincbaa.runs3
open Go.ChangeShapes Go.WideShapes Go.ChangeAt Go.RowKit
open Go.ChangeMaps (open_string shut_string)
set_option linter.unusedVariables false
open Go Ieee Go.RowKit
open Go.Proofs.Ytpeclgfopincbaa.slc Go.Proofs.Ytpeclgfopincbaa.small Go.Proofs.Ytpeclgfopincbaa.listI Go.Proofs.Ytpeclgfopincbaa.floats Go.Proofs.Ytpeclgfopincbaa.round Go.Proofs.Ytpeclgfopincbaa.values Go.Proofs.Ytpeclgfopincbaa.conv Go.Proofs.Ytpeclgfopincbaa.fWalk Go.Proofs.Ytpeclgfopincbaa.cut Go.Proofs.Ytpeclgfopincbaa.listF Go.Proofs.Ytpeclgfopincbaa.peak Go.Proofs.Ytpeclgfopincbaa.reach Go.Proofs.Ytpeclgfopincbaa.runs Go.Proofs.Ytpeclgfopincbaa.runs2

theorem gbd1 (w : World) (a : Nat) : w.grownBy (w.drewN a) none := gb_drewN _ _ _
theorem gbd2 (w : World) (a b : Nat) : w.grownBy ((w.drewN a).drewN b) none := (gb_drewN _ _ _).trans (gb_drewN _ _ _)
theorem gbd3 (w : World) (a b c : Nat) : w.grownBy (((w.drewN a).drewN b).drewN c) none := (gbd2 _ _ _).trans (gb_drewN _ _ _)

set_option maxHeartbeats 8000000 in
set_option maxRecDepth 100000 in
theorem lobe_spec (ad : Addr) (n c B : Nat) (x : Nat → Nat) (w : World) (h1n : 1 ≤ n) (hn : n ≤ 129) (hB : B ≤ w.heap.size) (ha : Rd w B (some ad) n (fl x)) :
    Calls Try.prog 125 #[.slice (some ad) n c, .bool true] w fun e w' => ∃ A c', e = .returned (.slice A (runs true x n n 0).length c') ∧ w'.ownsRow w.heap.size 2 1 (.slice A (runs true x n n 0).length c') (runs true x n n 0).length (ints (runs true x n n 0)) ∧ w.grownBy w' none := by
  obtain ⟨i0, hi0, hz0, hz1, hz2⟩ := info_parts info64
  go_enter Try.func125, Try.ntmps125
  go_wp2
  go_loopw [5, 6] (fun v i wr => ∃ (k : Nat) (acc : List Int) (f : Nat), k ≤ n ∧ i = .int .i64 k ∧ wr.ownsRow w.heap.size 2 1 v acc.length (ints acc) ∧ runs true x n n 0 = acc ++ runs true x n f k ∧ n - k ≤ f ∧ acc.length ≤ k ∧ w.grownBy wr none) (fun _ i _ => n - (intOf i).toNat)
  case atStart =>
    have h := World.ownsRow_lit (base := w.heap.size) (e := 2) (size := 1) w #[] 0 (by simp) (Nat.zero_le _) rfl
    exact ⟨0, [], n, Nat.zero_le _, rfl, h, rfl, Nat.le_refl _, Nat.le_refl _, World.grownBy_alloc _ _ _⟩
  case round =>
    obtain ⟨i, acc, f, hin, rfl, hown, hacc, hf, hal, hg⟩ := hrel
    obtain ⟨A0, c0, rfl⟩ := own_form hown
    have HACC := Lib.hid hacc
    clear hacc
    by_cases hlt : i < n
    · have hrd := ha.kept0 hg hB
      have hc := cell_at hrd hlt _ rfl
      have q0 : (0 : Int) ≤ i := by omega
      have q1 : (i : Int) < n := by omega
      have HIN := Lib.hid hlt
      have HW := Lib.hid hown
      have HGW := Lib.hid hg
      clear hown
      by_cases hnn : isNaN .f32 (x i) = true
      · have ho : FloatKind.f32.format.order (x i) (x i) = none := order_nan_l hnn
        obtain ⟨f', hf', hrn⟩ := runs_step (s := true) HIN.out hf (runK_nan hnn) (Nat.le_refl _)
        rw [if_neg (fun q => by rw [hnn] at q; exact absurd q.1 (by simp)), List.nil_append] at hrn
        have HRN2 := Lib.hid hrn
        clear hrn hnn hrd hg
        go_wp2
        go_quiet (fail)
        go_wp2
        go_roundw
        case rel => exact ⟨i + 1, acc, f', by omega, by go_num, own_kept0 HW.out (gb_drewN _ _ _), by rw [HACC.out, HRN2.out], hf', by omega, HGW.out.trans (gb_drewN _ _ _)⟩
        case measure => simp [intOf]; omega
      · have hnf : isNaN .f32 (x i) = false := by simpa using hnn
        have ho : FloatKind.f32.format.order (x i) (x i) = some .eq := order_refl hnf
        have HNN := Lib.hid hnf
        clear hnn hnf
        go_wp2
        go_quiet (fail)
        go_wp2
        go_loopw [7] (fun b wr => ∃ j : Nat, i ≤ j ∧ j < n ∧ b = .int .i64 j ∧ hi (runR x i) (n - 1 - j) j = runK x n i ∧ wr.ownsRow w.heap.size 2 1 (.slice A0 acc.length c0) acc.length (ints acc) ∧ w.grownBy wr none) (fun b _ => n - (intOf b).toNat)
        case atStart => exact ⟨i, Nat.le_refl _, HIN.out, by go_num, rfl, own_kept0 HW.out (gb_drewN _ _ _), HGW.out.trans (gb_drewN _ _ _)⟩
        case round =>
          clear hc hrd hg HW HGW
          obtain ⟨j, hij, hjn, rfl, hK, hown, hg⟩ := hrel
          have hrd := ha.kept0 hg hB
          have hc := cell_at hrd HIN.out _ rfl
          have HOWN := Lib.hid hown
          have HG := Lib.hid hg
          have j0 : (0 : Int) ≤ j := by omega
          have j1 : (j : Int) < n := by omega
          have s1 : IntKind.i64.wrap ((j : Int) + 1) = (j : Int) + 1 := IntWalk.i64_in _ (by omega)
          have s2 : (0 : Int) ≤ (j : Int) + 1 := by omega
          have s3 : ((j : Int) + 1).toNat = j + 1 := by omega
          clear hown hg
          by_cases hjj : j + 1 = n
          · have hkk : runK x n i = j := by rw [← hK, show n - 1 - j = 0 from by omega]; rfl
            have hdl : decide ((j : Int) + 1 < n) = false := by simp; omega
            clear hK
            obtain ⟨f', hf', hrn⟩ := runs_step (s := true) HIN.out hf hkk hij
            have HRN := Lib.hid hrn
            clear hrn hkk
            have hend := Lib.hid hjj
            clear hjj
            by_cases hi0' : i = 0
            · have hi00 : decide (0 < i) = false := by simp [hi0']
              have HI0 := Lib.hid hi0'
              clear hi0'
              have HF := Lib.hid (fine_t (s := true) (x := x) (.inl HI0.out) (.inl hend.out))
              have hrn2 := HRN.out
              rw [if_pos ⟨HNN.out, HF.out⟩] at hrn2
              have HRN2 := Lib.hid hrn2
              clear hrn2
              go_wp2
              go_quiet (fail)
              have hown := HOWN.out
              have hg := HG.out
              go_wp2_with (at_builtin; refine wpList_append_own _ rfl _ _ 45 rfl w.heap.size 2 i0 (.int .i64 0) 1 8 Try.underlying45 hi0 hz0 hz1 hz2 rfl (by decide) _ _ _ rfl ((own_kept0 hown (gbd1 _ _)).alloc _) ⟨wr.heap.size, 0, none⟩ 1 1 [.int .i64 (i : Int)] rfl rfl (cell_one_new _ _ _) (int_one _ _) (by unfold maxLen; omega) (by omega) (Nat.le_trans hg.size (by simp)) ?_; intro v' w1 hown' hgrow _)
              clear s3
              go_roundw
              case rel => exact ⟨j + 1, acc ++ [(i : Int)], f', by omega, by go_num, by rw [List.length_append, ← ints_snoc]; exact hown', by rw [List.append_assoc, HACC.out, HRN2.out], hf', by rw [List.length_append]; simp; omega, gb_own ((hg.trans (gbd1 _ _)).trans (World.grownBy_alloc _ _ _)) ((own_kept0 hown (gbd1 _ _)).alloc _) (Nat.le_refl _) hgrow⟩
              case measure => simp [intOf]; omega
            · obtain ⟨p, hp⟩ : ∃ p, i = p + 1 := ⟨i - 1, by omega⟩
              have hi00 : 0 < i := by omega
              have hpn : p < n := by omega
              have hcp := cell_at hrd hpn _ rfl
              have hp0 : (0 : Int) ≤ p := by omega
              have hp1 : (p : Int) < n := by omega
              have hsub : IntKind.i64.wrap ((i : Int) - 1) = (p : Int) := by rw [show (i : Int) - 1 = (p : Int) from by omega]; exact IntWalk.i64_in _ (by omega)
              have hsub' : (i : Int) - 1 = (p : Int) := by omega
              have hip : i - 1 = p := by omega
              have HIP := Lib.hid hip
              have HI0 := Lib.hid hi0'
              clear hi0' hp hip
              by_cases hn1 : near true x i p = true
              · have HN1 := Lib.hid (show near true x i (i - 1) = true by rw [HIP.out]; exact hn1)
                have hb1 : (FloatKind.f32.format.order (x p) (x i) == some .lt) = true := hn1
                clear hn1
                have HF := Lib.hid (fine_t (s := true) (x := x) (.inr HN1.out) (.inl hend.out))
                have hrn2 := HRN.out
                rw [if_pos ⟨HNN.out, HF.out⟩] at hrn2
                have HRN2 := Lib.hid hrn2
                clear hrn2
                go_wp2
                go_quiet (fail)
                go_wp2
                go_quiet (fail)
                have hown := HOWN.out
                have hg := HG.out
                go_wp2_with (at_builtin; refine wpList_append_own _ rfl _ _ 45 rfl w.heap.size 2 i0 (.int .i64 0) 1 8 Try.underlying45 hi0 hz0 hz1 hz2 rfl (by decide) _ _ _ rfl ((own_kept0 hown (gbd1 _ _)).alloc _) ⟨wr.heap.size, 0, none⟩ 1 1 [.int .i64 (i : Int)] rfl rfl (cell_one_new _ _ _) (int_one _ _) (by unfold maxLen; omega) (by omega) (Nat.le_trans hg.size (by simp)) ?_; intro v' w1 hown' hgrow _)
                clear s3
                go_roundw
                case rel => exact ⟨j + 1, acc ++ [(i : Int)], f', by omega, by go_num, by rw [List.length_append, ← ints_snoc]; exact hown', by rw [List.append_assoc, HACC.out, HRN2.out], hf', by rw [List.length_append]; simp; omega, gb_own ((hg.trans (gbd1 _ _)).trans (World.grownBy_alloc _ _ _)) ((own_kept0 hown (gbd1 _ _)).alloc _) (Nat.le_refl _) hgrow⟩
                case measure => simp [intOf]; omega
              · have hn1' : near true x i p = false := by simpa using hn1
                have HF := Lib.hid (fine_f1 (x := x) (n := n) (k := j) HI0.out (show near true x i (i - 1) = false by rw [HIP.out]; exact hn1'))
                have hb1 : (FloatKind.f32.format.order (x p) (x i) == some .lt) = false := hn1'
                clear hn1 hn1'
                have hrn2 := HRN.out
                rw [if_neg (fun q => by have q2 := q.2; rw [HF.out] at q2; cases q2), List.nil_append] at hrn2
                have HRN2 := Lib.hid hrn2
                clear hrn2
                go_wp2
                go_quiet (fail)
                go_wp2
                go_quiet (fail)
                go_wp2
                clear s3
                go_roundw
                case rel => exact ⟨j + 1, acc, f', by omega, by go_num, own_kept0 HOWN.out (by first | exact gbd1 _ _ | exact gbd2 _ _ _ | exact gbd3 _ _ _ _), by rw [HACC.out, HRN2.out], hf', by omega, HG.out.trans (by first | exact gbd1 _ _ | exact gbd2 _ _ _ | exact gbd3 _ _ _ _)⟩
                case measure => simp [intOf]; omega
          · have hj2 : j + 1 < n := by omega
            have hd := cell_at hrd hj2 _ rfl
            rw [add_succ] at hd
            have s4 : (j : Int) + 1 < n := by omega
            have hks : hi (runR x i) (n - 1 - j) j = if runR x i j (j + 1) then hi (runR x i) (n - 1 - (j + 1)) (j + 1) else j := by
              rw [show n - 1 - j = (n - 1 - (j + 1)) + 1 from by omega]; exact hi_succ (runR x i) _ _
            by_cases hr : runR x i j (j + 1) = true
            · have hk2 : hi (runR x i) (n - 1 - (j + 1)) (j + 1) = runK x n i := by rw [← hK, hks, if_pos hr]
              have hbq : (FloatKind.f32.format.order (x (j + 1)) (x i) == some .eq) = true := hr
              have HK := Lib.hid hk2
              clear hk2 hks hK hr
              go_wp2
              go_quiet (fail)
              go_wp2
              clear s3 s1
              go_roundw
              case rel => exact ⟨j + 1, by omega, by omega, by go_num, HK.out, own_kept0 HOWN.out (gb_drewN _ _ _), HG.out.trans (gb_drewN _ _ _)⟩
              case measure => simp [intOf]; omega
            · have hkk : runK x n i = j := by rw [← hK, hks, if_neg hr]
              have hbq : (FloatKind.f32.format.order (x (j + 1)) (x i) == some .eq) = false := by simpa [runR] using hr
              clear hks hK hr hjj
              obtain ⟨f', hf', hrn⟩ := runs_step (s := true) HIN.out hf hkk hij
              have HRN := Lib.hid hrn
              clear hrn hkk
              have hne := Lib.hid (show ¬ (j + 1 = n) by omega)
              by_cases hi0' : i = 0
              · have hi00 : decide (0 < i) = false := by simp [hi0']
                have HI0 := Lib.hid hi0'
                clear hi0'
                by_cases hn2 : near true x i (j + 1) = true
                · have HF := Lib.hid (fine_t (n := n) (.inl HI0.out) (.inr hn2))
                  have hb2 : (FloatKind.f32.format.order (x (j + 1)) (x i) == some .lt) = true := hn2
                  clear hn2
                  have hrn2 := HRN.out
                  rw [if_pos ⟨HNN.out, HF.out⟩] at hrn2
                  have HRN2 := Lib.hid hrn2
                  clear hrn2
                  go_wp2
                  go_quiet (fail)
                  go_wp2
                  go_quiet (fail)
                  have hown := HOWN.out
                  have hg := HG.out
                  go_wp2_with (at_builtin; refine wpList_append_own _ rfl _ _ 45 rfl w.heap.size 2 i0 (.int .i64 0) 1 8 Try.underlying45 hi0 hz0 hz1 hz2 rfl (by decide) _ _ _ rfl ((own_kept0 hown (gbd1 _ _)).alloc _) ⟨wr.heap.size, 0, none⟩ 1 1 [.int .i64 (i : Int)] rfl rfl (cell_one_new _ _ _) (int_one _ _) (by unfold maxLen; omega) (by omega) (Nat.le_trans hg.size (by simp)) ?_; intro v' w1 hown' hgrow _)
                  clear s3
                  go_roundw
                  case rel => exact ⟨j + 1, acc ++ [(i : Int)], f', by omega, by go_num, by rw [List.length_append, ← ints_snoc]; exact hown', by rw [List.append_assoc, HACC.out, HRN2.out], hf', by rw [List.length_append]; simp; omega, gb_own ((hg.trans (gbd1 _ _)).trans (World.grownBy_alloc _ _ _)) ((own_kept0 hown (gbd1 _ _)).alloc _) (Nat.le_refl _) hgrow⟩
                  case measure => simp [intOf]; omega
                · have hn2' : near true x i (j + 1) = false := by simpa using hn2
                  have HF := Lib.hid (fine_f2 (x := x) (n := n) hne.out hn2')
                  have hb2 : (FloatKind.f32.format.order (x (j + 1)) (x i) == some .lt) = false := hn2'
                  clear hn2 hn2'
                  have hrn2 := HRN.out
                  rw [if_neg (fun q => by have q2 := q.2; rw [HF.out] at q2; cases q2), List.nil_append] at hrn2
                  have HRN2 := Lib.hid hrn2
                  clear hrn2
                  go_wp2
                  go_quiet (fail)
                  go_wp2
                  go_quiet (fail)
                  go_wp2
                  clear s3
                  go_roundw
                  case rel => exact ⟨j + 1, acc, f', by omega, by go_num, own_kept0 HOWN.out (by first | exact gbd1 _ _ | exact gbd2 _ _ _ | exact gbd3 _ _ _ _), by rw [HACC.out, HRN2.out], hf', by omega, HG.out.trans (by first | exact gbd1 _ _ | exact gbd2 _ _ _ | exact gbd3 _ _ _ _)⟩
                  case measure => simp [intOf]; omega
              · obtain ⟨p, hp⟩ : ∃ p, i = p + 1 := ⟨i - 1, by omega⟩
                have hi00 : 0 < i := by omega
                have hpn : p < n := by omega
                have hcp := cell_at hrd hpn _ rfl
                have hp0 : (0 : Int) ≤ p := by omega
                have hp1 : (p : Int) < n := by omega
                have hsub : IntKind.i64.wrap ((i : Int) - 1) = (p : Int) := by rw [show (i : Int) - 1 = (p : Int) from by omega]; exact IntWalk.i64_in _ (by omega)
                have hsub' : (i : Int) - 1 = (p : Int) := by omega
                have hip : i - 1 = p := by omega
                have HIP := Lib.hid hip
                have HI0 := Lib.hid hi0'
                clear hi0' hp hip
                by_cases hn1 : near true x i p = true
                · have HN1 := Lib.hid (show near true x i (i - 1) = true by rw [HIP.out]; exact hn1)
                  have hb1 : (FloatKind.f32.format.order (x p) (x i) == some .lt) = true := hn1
                  clear hn1
                  by_cases hn2 : near true x i (j + 1) = true
                  · have HF := Lib.hid (fine_t (n := n) (.inr HN1.out) (.inr hn2))
                    have hb2 : (FloatKind.f32.format.order (x (j + 1)) (x i) == some .lt) = true := hn2
                    clear hn2
                    have hrn2 := HRN.out
                    rw [if_pos ⟨HNN.out, HF.out⟩] at hrn2
                    have HRN2 := Lib.hid hrn2
                    clear hrn2
                    go_wp2
                    go_quiet (fail)
                    go_wp2
                    go_quiet (fail)
                    go_wp2
                    go_quiet (fail)
                    have hown := HOWN.out
                    have hg := HG.out
                    go_wp2_with (at_builtin; refine wpList_append_own _ rfl _ _ 45 rfl w.heap.size 2 i0 (.int .i64 0) 1 8 Try.underlying45 hi0 hz0 hz1 hz2 rfl (by decide) _ _ _ rfl ((own_kept0 hown (gbd1 _ _)).alloc _) ⟨wr.heap.size, 0, none⟩ 1 1 [.int .i64 (i : Int)] rfl rfl (cell_one_new _ _ _) (int_one _ _) (by unfold maxLen; omega) (by omega) (Nat.le_trans hg.size (by simp)) ?_; intro v' w1 hown' hgrow _)
                    clear s3
                    go_roundw
                    case rel => exact ⟨j + 1, acc ++ [(i : Int)], f', by omega, by go_num, by rw [List.length_append, ← ints_snoc]; exact hown', by rw [List.append_assoc, HACC.out, HRN2.out], hf', by rw [List.length_append]; simp; omega, gb_own ((hg.trans (gbd1 _ _)).trans (World.grownBy_alloc _ _ _)) ((own_kept0 hown (gbd1 _ _)).alloc _) (Nat.le_refl _) hgrow⟩
                    case measure => simp [intOf]; omega
                  · have hn2' : near true x i (j + 1) = false := by simpa using hn2
                    have HF := Lib.hid (fine_f2 (x := x) (n := n) hne.out hn2')
                    have hb2 : (FloatKind.f32.format.order (x (j + 1)) (x i) == some .lt) = false := hn2'
                    clear hn2 hn2'
                    have hrn2 := HRN.out
                    rw [if_neg (fun q => by have q2 := q.2; rw [HF.out] at q2; cases q2), List.nil_append] at hrn2
                    have HRN2 := Lib.hid hrn2
                    clear hrn2
                    go_wp2
                    go_quiet (fail)
                    go_wp2
                    go_quiet (fail)
                    go_wp2
                    go_quiet (fail)
                    go_wp2
                    clear s3
                    go_roundw
                    case rel => exact ⟨j + 1, acc, f', by omega, by go_num, own_kept0 HOWN.out (by first | exact gbd1 _ _ | exact gbd2 _ _ _ | exact gbd3 _ _ _ _), by rw [HACC.out, HRN2.out], hf', by omega, HG.out.trans (by first | exact gbd1 _ _ | exact gbd2 _ _ _ | exact gbd3 _ _ _ _)⟩
                    case measure => simp [intOf]; omega
                · have hn1' : near true x i p = false := by simpa using hn1
                  have HF := Lib.hid (fine_f1 (x := x) (n := n) (k := j) HI0.out (show near true x i (i - 1) = false by rw [HIP.out]; exact hn1'))
                  have hb1 : (FloatKind.f32.format.order (x p) (x i) == some .lt) = false := hn1'
                  clear hn1 hn1'
                  have hrn2 := HRN.out
                  rw [if_neg (fun q => by have q2 := q.2; rw [HF.out] at q2; cases q2), List.nil_append] at hrn2
                  have HRN2 := Lib.hid hrn2
                  clear hrn2
                  go_wp2
                  go_quiet (fail)
                  go_wp2
                  go_quiet (fail)
                  go_wp2
                  go_quiet (fail)
                  go_wp2
                  clear s3
                  go_roundw
                  case rel => exact ⟨j + 1, acc, f', by omega, by go_num, own_kept0 HOWN.out (by first | exact gbd1 _ _ | exact gbd2 _ _ _ | exact gbd3 _ _ _ _), by rw [HACC.out, HRN2.out], hf', by omega, HG.out.trans (by first | exact gbd1 _ _ | exact gbd2 _ _ _ | exact gbd3 _ _ _ _)⟩
                  case measure => simp [intOf]; omega
    · obtain rfl : i = n := by omega
      rw [runs_done (Nat.le_refl _), List.append_nil] at HACC
      go_wp2
      go_ret
      exact ⟨_, _, by rw [HACC.out]; rfl, by rw [HACC.out]; exact hown, hg⟩

set_option maxHeartbeats 8000000 in
set_option maxRecDepth 100000 in
theorem dip_spec (ad : Addr) (n c B : Nat) (x : Nat → Nat) (w : World) (h1n : 1 ≤ n) (hn : n ≤ 129) (hB : B ≤ w.heap.size) (ha : Rd w B (some ad) n (fl x)) :
    Calls Try.prog 125 #[.slice (some ad) n c, .bool false] w fun e w' => ∃ A c', e = .returned (.slice A (runs false x n n 0).length c') ∧ w'.ownsRow w.heap.size 2 1 (.slice A (runs false x n n 0).length c') (runs false x n n 0).length (ints (runs false x n n 0)) ∧ w.grownBy w' none := by
  obtain ⟨i0, hi0, hz0, hz1, hz2⟩ := info_parts info64
  go_enter Try.func125, Try.ntmps125
  go_wp2
  go_loopw [5, 6] (fun v i wr => ∃ (k : Nat) (acc : List Int) (f : Nat), k ≤ n ∧ i = .int .i64 k ∧ wr.ownsRow w.heap.size 2 1 v acc.length (ints acc) ∧ runs false x n n 0 = acc ++ runs false x n f k ∧ n - k ≤ f ∧ acc.length ≤ k ∧ w.grownBy wr none) (fun _ i _ => n - (intOf i).toNat)
  case atStart =>
    have h := World.ownsRow_lit (base := w.heap.size) (e := 2) (size := 1) w #[] 0 (by simp) (Nat.zero_le _) rfl
    exact ⟨0, [], n, Nat.zero_le _, rfl, h, rfl, Nat.le_refl _, Nat.le_refl _, World.grownBy_alloc _ _ _⟩
  case round =>
    obtain ⟨i, acc, f, hin, rfl, hown, hacc, hf, hal, hg⟩ := hrel
    obtain ⟨A0, c0, rfl⟩ := own_form hown
    have HACC := Lib.hid hacc
    clear hacc
    by_cases hlt : i < n
    · have hrd := ha.kept0 hg hB
      have hc := cell_at hrd hlt _ rfl
      have q0 : (0 : Int) ≤ i := by omega
      have q1 : (i : Int) < n := by omega
      have HIN := Lib.hid hlt
      have HW := Lib.hid hown
      have HGW := Lib.hid hg
      clear hown
      by_cases hnn : isNaN .f32 (x i) = true
      · have ho : FloatKind.f32.format.order (x i) (x i) = none := order_nan_l hnn
        obtain ⟨f', hf', hrn⟩ := runs_step (s := false) HIN.out hf (runK_nan hnn) (Nat.le_refl _)
        rw [if_neg (fun q => by rw [hnn] at q; exact absurd q.1 (by simp)), List.nil_append] at hrn
        have HRN2 := Lib.hid hrn
        clear hrn hnn hrd hg
        go_wp2
        go_quiet (fail)
        go_wp2
        go_roundw
        case rel => exact ⟨i + 1, acc, f', by omega, by go_num, own_kept0 HW.out (gb_drewN _ _ _), by rw [HACC.out, HRN2.out], hf', by omega, HGW.out.trans (gb_drewN _ _ _)⟩
        case measure => simp [intOf]; omega
      · have hnf : isNaN .f32 (x i) = false := by simpa using hnn
        have ho : FloatKind.f32.format.order (x i) (x i) = some .eq := order_refl hnf
        have HNN := Lib.hid hnf
        clear hnn hnf
        go_wp2
        go_quiet (fail)
        go_wp2
        go_loopw [7] (fun b wr => ∃ j : Nat, i ≤ j ∧ j < n ∧ b = .int .i64 j ∧ hi (runR x i) (n - 1 - j) j = runK x n i ∧ wr.ownsRow w.heap.size 2 1 (.slice A0 acc.length c0) acc.length (ints acc) ∧ w.grownBy wr none) (fun b _ => n - (intOf b).toNat)
        case atStart => exact ⟨i, Nat.le_refl _, HIN.out, by go_num, rfl, own_kept0 HW.out (gb_drewN _ _ _), HGW.out.trans (gb_drewN _ _ _)⟩
        case round =>
          clear hc hrd hg HW HGW
          obtain ⟨j, hij, hjn, rfl, hK, hown, hg⟩ := hrel
          have hrd := ha.kept0 hg hB
          have hc := cell_at hrd HIN.out _ rfl
          have HOWN := Lib.hid hown
          have HG := Lib.hid hg
          have j0 : (0 : Int) ≤ j := by omega
          have j1 : (j : Int) < n := by omega
          have s1 : IntKind.i64.wrap ((j : Int) + 1) = (j : Int) + 1 := IntWalk.i64_in _ (by omega)
          have s2 : (0 : Int) ≤ (j : Int) + 1 := by omega
          have s3 : ((j : Int) + 1).toNat = j + 1 := by omega
          clear hown hg
          by_cases hjj : j + 1 = n
          · have hkk : runK x n i = j := by rw [← hK, show n - 1 - j = 0 from by omega]; rfl
            have hdl : decide ((j : Int) + 1 < n) = false := by simp; omega
            clear hK
            obtain ⟨f', hf', hrn⟩ := runs_step (s := false) HIN.out hf hkk hij
            have HRN := Lib.hid hrn
            clear hrn hkk
            have hend := Lib.hid hjj
            clear hjj
            by_cases hi0' : i = 0
            · have hi00 : decide (0 < i) = false := by simp [hi0']
              have HI0 := Lib.hid hi0'
              clear hi0'
              have HF := Lib.hid (fine_t (s := false) (x := x) (.inl HI0.out) (.inl hend.out))
              have hrn2 := HRN.out
              rw [if_pos ⟨HNN.out, HF.out⟩] at hrn2
              have HRN2 := Lib.hid hrn2
              clear hrn2
              go_wp2
              go_quiet (fail)
              have hown := HOWN.out
              have hg := HG.out
              go_wp2_with (at_builtin; refine wpList_append_own _ rfl _ _ 45 rfl w.heap.size 2 i0 (.int .i64 0) 1 8 Try.underlying45 hi0 hz0 hz1 hz2 rfl (by decide) _ _ _ rfl ((own_kept0 hown (gbd1 _ _)).alloc _) ⟨wr.heap.size, 0, none⟩ 1 1 [.int .i64 (i : Int)] rfl rfl (cell_one_new _ _ _) (int_one _ _) (by unfold maxLen; omega) (by omega) (Nat.le_trans hg.size (by simp)) ?_; intro v' w1 hown' hgrow _)
              clear s3
              go_roundw
              case rel => exact ⟨j + 1, acc ++ [(i : Int)], f', by omega, by go_num, by rw [List.length_append, ← ints_snoc]; exact hown', by rw [List.append_assoc, HACC.out, HRN2.out], hf', by rw [List.length_append]; simp; omega, gb_own ((hg.trans (gbd1 _ _)).trans (World.grownBy_alloc _ _ _)) ((own_kept0 hown (gbd1 _ _)).alloc _) (Nat.le_refl _) hgrow⟩
              case measure => simp [intOf]; omega
            · obtain ⟨p, hp⟩ : ∃ p, i = p + 1 := ⟨i - 1, by omega⟩
              have hi00 : 0 < i := by omega
              have hpn : p < n := by omega
              have hcp := cell_at hrd hpn _ rfl
              have hp0 : (0 : Int) ≤ p := by omega
              have hp1 : (p : Int) < n := by omega
              have hsub : IntKind.i64.wrap ((i : Int) - 1) = (p : Int) := by rw [show (i : Int) - 1 = (p : Int) from by omega]; exact IntWalk.i64_in _ (by omega)
              have hsub' : (i : Int) - 1 = (p : Int) := by omega
              have hip : i - 1 = p := by omega
              have HIP := Lib.hid hip
              have HI0 := Lib.hid hi0'
              clear hi0' hp hip
              by_cases hn1 : near false x i p = true
              · have HN1 := Lib.hid (show near false x i (i - 1) = true by rw [HIP.out]; exact hn1)
                have hb1 : (FloatKind.f32.format.order (x p) (x i) == some .gt) = true := hn1
                clear hn1
                have HF := Lib.hid (fine_t (s := false) (x := x) (.inr HN1.out) (.inl hend.out))
                have hrn2 := HRN.out
                rw [if_pos ⟨HNN.out, HF.out⟩] at hrn2
                have HRN2 := Lib.hid hrn2
                clear hrn2
                go_wp2
                go_quiet (fail)
                go_wp2
                go_quiet (fail)
                have hown := HOWN.out
                have hg := HG.out
                go_wp2_with (at_builtin; refine wpList_append_own _ rfl _ _ 45 rfl w.heap.size 2 i0 (.int .i64 0) 1 8 Try.underlying45 hi0 hz0 hz1 hz2 rfl (by decide) _ _ _ rfl ((own_kept0 hown (gbd1 _ _)).alloc _) ⟨wr.heap.size, 0, none⟩ 1 1 [.int .i64 (i : Int)] rfl rfl (cell_one_new _ _ _) (int_one _ _) (by unfold maxLen; omega) (by omega) (Nat.le_trans hg.size (by simp)) ?_; intro v' w1 hown' hgrow _)
                clear s3
                go_roundw
                case rel => exact ⟨j + 1, acc ++ [(i : Int)], f', by omega, by go_num, by rw [List.length_append, ← ints_snoc]; exact hown', by rw [List.append_assoc, HACC.out, HRN2.out], hf', by rw [List.length_append]; simp; omega, gb_own ((hg.trans (gbd1 _ _)).trans (World.grownBy_alloc _ _ _)) ((own_kept0 hown (gbd1 _ _)).alloc _) (Nat.le_refl _) hgrow⟩
                case measure => simp [intOf]; omega
              · have hn1' : near false x i p = false := by simpa using hn1
                have HF := Lib.hid (fine_f1 (x := x) (n := n) (k := j) HI0.out (show near false x i (i - 1) = false by rw [HIP.out]; exact hn1'))
                have hb1 : (FloatKind.f32.format.order (x p) (x i) == some .gt) = false := hn1'
                clear hn1 hn1'
                have hrn2 := HRN.out
                rw [if_neg (fun q => by have q2 := q.2; rw [HF.out] at q2; cases q2), List.nil_append] at hrn2
                have HRN2 := Lib.hid hrn2
                clear hrn2
                go_wp2
                go_quiet (fail)
                go_wp2
                go_quiet (fail)
                go_wp2
                clear s3
                go_roundw
                case rel => exact ⟨j + 1, acc, f', by omega, by go_num, own_kept0 HOWN.out (by first | exact gbd1 _ _ | exact gbd2 _ _ _ | exact gbd3 _ _ _ _), by rw [HACC.out, HRN2.out], hf', by omega, HG.out.trans (by first | exact gbd1 _ _ | exact gbd2 _ _ _ | exact gbd3 _ _ _ _)⟩
                case measure => simp [intOf]; omega
          · have hj2 : j + 1 < n := by omega
            have hd := cell_at hrd hj2 _ rfl
            rw [add_succ] at hd
            have s4 : (j : Int) + 1 < n := by omega
            have hks : hi (runR x i) (n - 1 - j) j = if runR x i j (j + 1) then hi (runR x i) (n - 1 - (j + 1)) (j + 1) else j := by
              rw [show n - 1 - j = (n - 1 - (j + 1)) + 1 from by omega]; exact hi_succ (runR x i) _ _
            by_cases hr : runR x i j (j + 1) = true
            · have hk2 : hi (runR x i) (n - 1 - (j + 1)) (j + 1) = runK x n i := by rw [← hK, hks, if_pos hr]
              have hbq : (FloatKind.f32.format.order (x (j + 1)) (x i) == some .eq) = true := hr
              have HK := Lib.hid hk2
              clear hk2 hks hK hr
              go_wp2
              go_quiet (fail)
              go_wp2
              clear s3 s1
              go_roundw
              case rel => exact ⟨j + 1, by omega, by omega, by go_num, HK.out, own_kept0 HOWN.out (gb_drewN _ _ _), HG.out.trans (gb_drewN _ _ _)⟩
              case measure => simp [intOf]; omega
            · have hkk : runK x n i = j := by rw [← hK, hks, if_neg hr]
              have hbq : (FloatKind.f32.format.order (x (j + 1)) (x i) == some .eq) = false := by simpa [runR] using hr
              clear hks hK hr hjj
              obtain ⟨f', hf', hrn⟩ := runs_step (s := false) HIN.out hf hkk hij
              have HRN := Lib.hid hrn
              clear hrn hkk
              have hne := Lib.hid (show ¬ (j + 1 = n) by omega)
              by_cases hi0' : i = 0
              · have hi00 : decide (0 < i) = false := by simp [hi0']
                have HI0 := Lib.hid hi0'
                clear hi0'
                by_cases hn2 : near false x i (j + 1) = true
                · have HF := Lib.hid (fine_t (n := n) (.inl HI0.out) (.inr hn2))
                  have hb2 : (FloatKind.f32.format.order (x (j + 1)) (x i) == some .gt) = true := hn2
                  clear hn2
                  have hrn2 := HRN.out
                  rw [if_pos ⟨HNN.out, HF.out⟩] at hrn2
                  have HRN2 := Lib.hid hrn2
                  clear hrn2
                  go_wp2
                  go_quiet (fail)
                  go_wp2
                  go_quiet (fail)
                  have hown := HOWN.out
                  have hg := HG.out
                  go_wp2_with (at_builtin; refine wpList_append_own _ rfl _ _ 45 rfl w.heap.size 2 i0 (.int .i64 0) 1 8 Try.underlying45 hi0 hz0 hz1 hz2 rfl (by decide) _ _ _ rfl ((own_kept0 hown (gbd1 _ _)).alloc _) ⟨wr.heap.size, 0, none⟩ 1 1 [.int .i64 (i : Int)] rfl rfl (cell_one_new _ _ _) (int_one _ _) (by unfold maxLen; omega) (by omega) (Nat.le_trans hg.size (by simp)) ?_; intro v' w1 hown' hgrow _)
                  clear s3
                  go_roundw
                  case rel => exact ⟨j + 1, acc ++ [(i : Int)], f', by omega, by go_num, by rw [List.length_append, ← ints_snoc]; exact hown', by rw [List.append_assoc, HACC.out, HRN2.out], hf', by rw [List.length_append]; simp; omega, gb_own ((hg.trans (gbd1 _ _)).trans (World.grownBy_alloc _ _ _)) ((own_kept0 hown (gbd1 _ _)).alloc _) (Nat.le_refl _) hgrow⟩
                  case measure => simp [intOf]; omega
                · have hn2' : near false x i (j + 1) = false := by simpa using hn2
                  have HF := Lib.hid (fine_f2 (x := x) (n := n) hne.out hn2')
                  have hb2 : (FloatKind.f32.format.order (x (j + 1)) (x i) == some .gt) = false := hn2'
                  clear hn2 hn2'
                  have hrn2 := HRN.out
                  rw [if_neg (fun q => by have q2 := q.2; rw [HF.out] at q2; cases q2), List.nil_append] at hrn2
                  have HRN2 := Lib.hid hrn2
                  clear hrn2
                  go_wp2
                  go_quiet (fail)
                  go_wp2
                  go_quiet (fail)
                  go_wp2
                  clear s3
                  go_roundw
                  case rel => exact ⟨j + 1, acc, f', by omega, by go_num, own_kept0 HOWN.out (by first | exact gbd1 _ _ | exact gbd2 _ _ _ | exact gbd3 _ _ _ _), by rw [HACC.out, HRN2.out], hf', by omega, HG.out.trans (by first | exact gbd1 _ _ | exact gbd2 _ _ _ | exact gbd3 _ _ _ _)⟩
                  case measure => simp [intOf]; omega
              · obtain ⟨p, hp⟩ : ∃ p, i = p + 1 := ⟨i - 1, by omega⟩
                have hi00 : 0 < i := by omega
                have hpn : p < n := by omega
                have hcp := cell_at hrd hpn _ rfl
                have hp0 : (0 : Int) ≤ p := by omega
                have hp1 : (p : Int) < n := by omega
                have hsub : IntKind.i64.wrap ((i : Int) - 1) = (p : Int) := by rw [show (i : Int) - 1 = (p : Int) from by omega]; exact IntWalk.i64_in _ (by omega)
                have hsub' : (i : Int) - 1 = (p : Int) := by omega
                have hip : i - 1 = p := by omega
                have HIP := Lib.hid hip
                have HI0 := Lib.hid hi0'
                clear hi0' hp hip
                by_cases hn1 : near false x i p = true
                · have HN1 := Lib.hid (show near false x i (i - 1) = true by rw [HIP.out]; exact hn1)
                  have hb1 : (FloatKind.f32.format.order (x p) (x i) == some .gt) = true := hn1
                  clear hn1
                  by_cases hn2 : near false x i (j + 1) = true
                  · have HF := Lib.hid (fine_t (n := n) (.inr HN1.out) (.inr hn2))
                    have hb2 : (FloatKind.f32.format.order (x (j + 1)) (x i) == some .gt) = true := hn2
                    clear hn2
                    have hrn2 := HRN.out
                    rw [if_pos ⟨HNN.out, HF.out⟩] at hrn2
                    have HRN2 := Lib.hid hrn2
                    clear hrn2
                    go_wp2
                    go_quiet (fail)
                    go_wp2
                    go_quiet (fail)
                    go_wp2
                    go_quiet (fail)
                    have hown := HOWN.out
                    have hg := HG.out
                    go_wp2_with (at_builtin; refine wpList_append_own _ rfl _ _ 45 rfl w.heap.size 2 i0 (.int .i64 0) 1 8 Try.underlying45 hi0 hz0 hz1 hz2 rfl (by decide) _ _ _ rfl ((own_kept0 hown (gbd1 _ _)).alloc _) ⟨wr.heap.size, 0, none⟩ 1 1 [.int .i64 (i : Int)] rfl rfl (cell_one_new _ _ _) (int_one _ _) (by unfold maxLen; omega) (by omega) (Nat.le_trans hg.size (by simp)) ?_; intro v' w1 hown' hgrow _)
                    clear s3
                    go_roundw
                    case rel => exact ⟨j + 1, acc ++ [(i : Int)], f', by omega, by go_num, by rw [List.length_append, ← ints_snoc]; exact hown', by rw [List.append_assoc, HACC.out, HRN2.out], hf', by rw [List.length_append]; simp; omega, gb_own ((hg.trans (gbd1 _ _)).trans (World.grownBy_alloc _ _ _)) ((own_kept0 hown (gbd1 _ _)).alloc _) (Nat.le_refl _) hgrow⟩
                    case measure => simp [intOf]; omega
                  · have hn2' : near false x i (j + 1) = false := by simpa using hn2
                    have HF := Lib.hid (fine_f2 (x := x) (n := n) hne.out hn2')
                    have hb2 : (FloatKind.f32.format.order (x (j + 1)) (x i) == some .gt) = false := hn2'
                    clear hn2 hn2'
                    have hrn2 := HRN.out
                    rw [if_neg (fun q => by have q2 := q.2; rw [HF.out] at q2; cases q2), List.nil_append] at hrn2
                    have HRN2 := Lib.hid hrn2
                    clear hrn2
                    go_wp2
                    go_quiet (fail)
                    go_wp2
                    go_quiet (fail)
                    go_wp2
                    go_quiet (fail)
                    go_wp2
                    clear s3
                    go_roundw
                    case rel => exact ⟨j + 1, acc, f', by omega, by go_num, own_kept0 HOWN.out (by first | exact gbd1 _ _ | exact gbd2 _ _ _ | exact gbd3 _ _ _ _), by rw [HACC.out, HRN2.out], hf', by omega, HG.out.trans (by first | exact gbd1 _ _ | exact gbd2 _ _ _ | exact gbd3 _ _ _ _)⟩
                    case measure => simp [intOf]; omega
                · have hn1' : near false x i p = false := by simpa using hn1
                  have HF := Lib.hid (fine_f1 (x := x) (n := n) (k := j) HI0.out (show near false x i (i - 1) = false by rw [HIP.out]; exact hn1'))
                  have hb1 : (FloatKind.f32.format.order (x p) (x i) == some .gt) = false := hn1'
                  clear hn1 hn1'
                  have hrn2 := HRN.out
                  rw [if_neg (fun q => by have q2 := q.2; rw [HF.out] at q2; cases q2), List.nil_append] at hrn2
                  have HRN2 := Lib.hid hrn2
                  clear hrn2
                  go_wp2
                  go_quiet (fail)
                  go_wp2
                  go_quiet (fail)
                  go_wp2
                  go_quiet (fail)
                  go_wp2
                  clear s3
                  go_roundw
                  case rel => exact ⟨j + 1, acc, f', by omega, by go_num, own_kept0 HOWN.out (by first | exact gbd1 _ _ | exact gbd2 _ _ _ | exact gbd3 _ _ _ _), by rw [HACC.out, HRN2.out], hf', by omega, HG.out.trans (by first | exact gbd1 _ _ | exact gbd2 _ _ _ | exact gbd3 _ _ _ _)⟩
                  case measure => simp [intOf]; omega
    · obtain rfl : i = n := by omega
      rw [runs_done (Nat.le_refl _), List.append_nil] at HACC
      go_wp2
      go_ret
      exact ⟨_, _, by rw [HACC.out]; rfl, by rw [HACC.out]; exact hown, hg⟩

end Go.Proofs.Ytpeclgfopincbaa.runs3
