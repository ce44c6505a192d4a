/- LobesOf and DipsOf, by the program. -/
import Derived.Test.YtkjmlpdbnnmlhabRows
import Derived.Test.YtkjmlpdbnnmlhabSlc
import Derived.Test.YtkjmlpdbnnmlhabSmall
import Derived.Test.YtkjmlpdbnnmlhabListI
import Derived.Test.YtkjmlpdbnnmlhabFloatAll
import Derived.Test.YtkjmlpdbnnmlhabFWalk
import Derived.Test.YtkjmlpdbnnmlhabCut
import Derived.Test.YtkjmlpdbnnmlhabListF
import Derived.Test.YtkjmlpdbnnmlhabPeak
import Derived.Test.YtkjmlpdbnnmlhabReach
import Derived.Test.YtkjmlpdbnnmlhabRuns
import Derived.WalkKit
import Derived.ProofKit
import Derived.OpenShut
import Derived.ShutString
import Derived.ChangeOld
import Derived.Below
import Derived.Lib.Hide
import Derived.BigQuiet
import Derived.Deep.QuietTactic
import Derived.WalkLawsBesides
import Derived.Outline
import Derived.Deep.LoopGhost
namespace Go.Proofs.Ytkjmlpdbnnmlhab.runs2
open Go.ChangeShapes Go.WideShapes Go.ChangeAt Go.RowKit
open Go.ChangeMaps (open_string shut_string)
set_option linter.unusedVariables false
open Go Ieee Go.RowKit
open Go.Proofs.Ytkjmlpdbnnmlhab.slc Go.Proofs.Ytkjmlpdbnnmlhab.small Go.Proofs.Ytkjmlpdbnnmlhab.listI Go.Proofs.Ytkjmlpdbnnmlhab.floats Go.Proofs.Ytkjmlpdbnnmlhab.round Go.Proofs.Ytkjmlpdbnnmlhab.values Go.Proofs.Ytkjmlpdbnnmlhab.conv Go.Proofs.Ytkjmlpdbnnmlhab.fWalk Go.Proofs.Ytkjmlpdbnnmlhab.cut Go.Proofs.Ytkjmlpdbnnmlhab.listF Go.Proofs.Ytkjmlpdbnnmlhab.peak Go.Proofs.Ytkjmlpdbnnmlhab.reach Go.Proofs.Ytkjmlpdbnnmlhab.runs

theorem fine_t {s : Bool} {x : Nat → Nat} {n i k : Nat} (h1 : i = 0 ∨ near s x i (i - 1) = true) (h2 : k + 1 = n ∨ near s x i (k + 1) = true) : fine s x n i k = true := by
  simp only [fine, Bool.and_eq_true, Bool.or_eq_true, decide_eq_true_eq]
  exact ⟨h1, h2⟩
theorem fine_f1 {s : Bool} {x : Nat → Nat} {n i k : Nat} (h0 : ¬ i = 0) (h1 : near s x i (i - 1) = false) : fine s x n i k = false := by
  unfold fine; simp [h0, h1]
theorem fine_f2 {s : Bool} {x : Nat → Nat} {n i k : Nat} (h0 : ¬ k + 1 = n) (h1 : near s x i (k + 1) = false) : fine s x n i k = false := by
  unfold fine; simp [h0, h1]
theorem lobe_cl (a b : Nat) (w : World) : Calls Try.prog 151 #[.float .f32 a, .float .f32 b] w fun e w' =>
    e = .returned (.bool (FloatKind.f32.format.order a b == some .gt)) ∧ w = w' := by
  go_enter Try.func151, Try.ntmps151
  go_wp2
  go_ret
  exact ⟨rfl, rfl⟩
theorem dip_cl : True := trivial

set_option maxHeartbeats 8000000 in
set_option maxRecDepth 100000 in
theorem lobe_impl (ad : Addr) (n c B : Nat) (x : Nat → Nat) (w : World) (h1n : 1 ≤ n) (hn : n ≤ 129) (hB : B ≤ w.heap.size) (ha : Rd w B (some ad) n (fl x)) :
    Calls Try.prog 150 #[.slice (some ad) n c, .func (.func 151) #[] #[]] w fun e w' => ∃ A c', e = .returned (.tuple #[.slice A (runs true x n n 0).length c', .bool true]) ∧ w'.ownsRow w.heap.size 2 1 (.slice A (runs true x n n 0).length c') (runs true x n n 0).length (ints (runs true x n n 0)) ∧ w.grownBy w' none := by
  obtain ⟨i0, hi0, hz0, hz1, hz2⟩ := info_parts info64
  go_enter Try.func150, Try.ntmps150
  go_wp2_with fail
  refine (cut_yes _ _ _ _ h1n hn).mono ?_
  rintro e w' ⟨rfl, rfl⟩
  go_wp2_with fail
  go_loopw [6, 7] (fun v i wr => ∃ (k : Nat) (acc : List Int) (f : Nat), k ≤ n ∧ i = .int .i64 k ∧ wr.ownsRow w.heap.size 2 1 v acc.length (ints acc) ∧ runs true x n n 0 = acc ++ runs true x n f k ∧ n - k ≤ f ∧ acc.length ≤ k ∧ w.grownBy wr none) (fun _ i _ => n - (intOf i).toNat)
  case atStart => exact ⟨0, [], n, Nat.zero_le _, rfl, World.ownsRow_nil _ _ _ _, rfl, Nat.le_refl _, Nat.le_refl _, World.grownBy.refl _ _⟩
  case round =>
    obtain ⟨i, acc, f, hin, rfl, hown, hacc, hf, hal, hg⟩ := hrel
    obtain ⟨A0, c0, rfl⟩ := own_form hown
    have HACC := Lib.hid hacc
    clear hacc
    by_cases hlt : i < n
    · have hrd := ha.kept0 hg hB
      have hc := cell_at hrd hlt _ rfl
      have q0 : (0 : Int) ≤ i := by omega
      have q1 : (i : Int) < n := by omega
      have HIN := Lib.hid hlt
      have HW := Lib.hid hown
      have HGW := Lib.hid hg
      clear hown
      go_wp2
      go_loopw [8] (fun b wr => ∃ j : Nat, i ≤ j ∧ j < n ∧ b = .int .i64 ((j : Int) + 1) ∧ hi (runR x i) (n - 1 - j) j = runK x n i ∧ wr.ownsRow w.heap.size 2 1 (.slice A0 acc.length c0) acc.length (ints acc) ∧ w.grownBy wr none) (fun b _ => n - (intOf b).toNat)
      case atStart => exact ⟨i, Nat.le_refl _, HIN.out, by go_num, rfl, HW.out, HGW.out⟩
      case round =>
        clear hc hrd hg HW HGW
        obtain ⟨j, hij, hjn, rfl, hK, hown, hg⟩ := hrel
        have hrd := ha.kept0 hg hB
        have hc := cell_at hrd HIN.out _ rfl
        have HOWN := Lib.hid hown
        have HG := Lib.hid hg
        clear hown hg
        by_cases hjj : j + 1 = n
        · have hkk : runK x n i = j := by rw [← hK, show n - 1 - j = 0 from by omega]; rfl
          have hdl : decide ((j : Int) + 1 < n) = false := by simp; omega
          clear hK
          obtain ⟨f', hf', hrn⟩ := runs_step (s := true) HIN.out hf hkk hij
          have HRN := Lib.hid hrn
          clear hrn hkk
          have hend := Lib.hid hjj
          have hbe : ((j : Int) + 1 == (n : Int)) = true := by simp; omega
          clear hjj
          have hj1 : IntKind.i64.wrap ((j : Int) + 1) = (j : Int) + 1 := IntWalk.i64_in _ (by omega)
          by_cases hi0' : i = 0
          · have hi00 : ((i : Int) == 0) = true := by simp [hi0']
            have HI0 := Lib.hid hi0'
            clear hi0'
            have HF := Lib.hid (fine_t (s := true) (x := x) (.inl HI0.out) (.inl hend.out))
            by_cases hnn : isNaN .f32 (x i) = true
            · have hnc := nan_call (x i)
              rw [hnn] at hnc
              have HN := Lib.hid hnc
              have HNN := Lib.hid hnn
              clear hnc hnn
              have hrn2 := HRN.out
              rw [if_neg (fun q => by rw [HNN.out] at q; exact absurd q.1 (by simp)), List.nil_append] at hrn2
              have HRN2 := Lib.hid hrn2
              clear hrn2
              go_wp2_with (go_at_call 151; refine (lobe_cl _ _ _).mono ?_; rintro e w' ⟨rfl, rfl⟩)
              refine (HN.out _).mono ?_
              rintro e w' ⟨rfl, qn, rfl⟩
              go_wp2_with fail
              go_roundw
              case rel => exact ⟨j + 1, acc, f', by omega, by go_num, own_kept0 HOWN.out (gb_drewN _ _ _), by rw [HACC.out, HRN2.out], hf', by omega, HG.out.trans (gb_drewN _ _ _)⟩
              case measure => simp [intOf]; omega
            · have hnf : isNaN .f32 (x i) = false := by simpa using hnn
              have hnc := nan_call (x i)
              rw [hnf] at hnc
              have HN := Lib.hid hnc
              have HNN := Lib.hid hnf
              clear hnc hnn hnf
              have hrn2 := HRN.out
              rw [if_pos ⟨HNN.out, HF.out⟩] at hrn2
              have HRN2 := Lib.hid hrn2
              clear hrn2
              go_wp2_with (go_at_call 151; refine (lobe_cl _ _ _).mono ?_; rintro e w' ⟨rfl, rfl⟩)
              refine (HN.out _).mono ?_
              rintro e w' ⟨rfl, qn, rfl⟩
              have hown := HOWN.out
              have hg := HG.out
              go_wp2_with (at_builtin; refine wpList_append_own _ rfl _ _ 30 rfl w.heap.size 2 i0 (.int .i64 0) 1 8 Try.underlying30 hi0 hz0 hz1 hz2 rfl (by decide) _ _ _ rfl ((own_kept0 hown (gb_drewN _ _ _)).alloc _) ⟨wr.heap.size, 0, none⟩ 1 1 [.int .i64 (i : Int)] rfl rfl (cell_one_new _ _ _) (int_one _ _) (by unfold maxLen; omega) (by omega) (Nat.le_trans hg.size (by simp)) ?_; intro v' w1 hown' hgrow _)
              go_roundw
              case rel => exact ⟨j + 1, acc ++ [(i : Int)], f', by omega, by go_num, by rw [List.length_append, ← ints_snoc]; exact hown', by rw [List.append_assoc, HACC.out, HRN2.out], hf', by rw [List.length_append]; simp; omega, gb_own ((hg.trans (gb_drewN _ _ _)).trans (World.grownBy_alloc _ _ _)) ((own_kept0 hown (gb_drewN _ _ _)).alloc _) (Nat.le_refl _) hgrow⟩
              case measure => simp [intOf]; omega
          · obtain ⟨p, hp⟩ : ∃ p, i = p + 1 := ⟨i - 1, by omega⟩
            have hi00 : ((i : Int) == 0) = false := by simp; omega
            have hpn : p < n := by omega
            have hcp := cell_at hrd hpn _ rfl
            have hp0 : (0 : Int) ≤ p := by omega
            have hp1 : (p : Int) < n := by omega
            have hsub : IntKind.i64.wrap ((i : Int) - 1) = (p : Int) := by rw [show (i : Int) - 1 = (p : Int) from by omega]; exact IntWalk.i64_in _ (by omega)
            have hsub' : (i : Int) - 1 = (p : Int) := by omega
            have hip : i - 1 = p := by omega
            have HIP := Lib.hid hip
            have HI0 := Lib.hid hi0'
            clear hi0' hp hip
            by_cases hn1 : near true x i p = true
            · have HN1 := Lib.hid (show near true x i (i - 1) = true by rw [HIP.out]; exact hn1)
              have hb1 : (FloatKind.f32.format.order (x i) (x p) == some .gt) = true := by rw [near_lobe]; exact hn1
              clear hn1
              have HF := Lib.hid (fine_t (s := true) (x := x) (.inr HN1.out) (.inl hend.out))
              by_cases hnn : isNaN .f32 (x i) = true
              · have hnc := nan_call (x i)
                rw [hnn] at hnc
                have HN := Lib.hid hnc
                have HNN := Lib.hid hnn
                clear hnc hnn
                have hrn2 := HRN.out
                rw [if_neg (fun q => by rw [HNN.out] at q; exact absurd q.1 (by simp)), List.nil_append] at hrn2
                have HRN2 := Lib.hid hrn2
                clear hrn2
                go_wp2_with (go_at_call 151; refine (lobe_cl _ _ _).mono ?_; rintro e w' ⟨rfl, rfl⟩)
                refine (HN.out _).mono ?_
                rintro e w' ⟨rfl, qn, rfl⟩
                go_wp2_with fail
                go_roundw
                case rel => exact ⟨j + 1, acc, f', by omega, by go_num, own_kept0 HOWN.out (gb_drewN _ _ _), by rw [HACC.out, HRN2.out], hf', by omega, HG.out.trans (gb_drewN _ _ _)⟩
                case measure => simp [intOf]; omega
              · have hnf : isNaN .f32 (x i) = false := by simpa using hnn
                have hnc := nan_call (x i)
                rw [hnf] at hnc
                have HN := Lib.hid hnc
                have HNN := Lib.hid hnf
                clear hnc hnn hnf
                have hrn2 := HRN.out
                rw [if_pos ⟨HNN.out, HF.out⟩] at hrn2
                have HRN2 := Lib.hid hrn2
                clear hrn2
                go_wp2_with (go_at_call 151; refine (lobe_cl _ _ _).mono ?_; rintro e w' ⟨rfl, rfl⟩)
                refine (HN.out _).mono ?_
                rintro e w' ⟨rfl, qn, rfl⟩
                have hown := HOWN.out
                have hg := HG.out
                go_wp2_with (at_builtin; refine wpList_append_own _ rfl _ _ 30 rfl w.heap.size 2 i0 (.int .i64 0) 1 8 Try.underlying30 hi0 hz0 hz1 hz2 rfl (by decide) _ _ _ rfl ((own_kept0 hown (gb_drewN _ _ _)).alloc _) ⟨wr.heap.size, 0, none⟩ 1 1 [.int .i64 (i : Int)] rfl rfl (cell_one_new _ _ _) (int_one _ _) (by unfold maxLen; omega) (by omega) (Nat.le_trans hg.size (by simp)) ?_; intro v' w1 hown' hgrow _)
                go_roundw
                case rel => exact ⟨j + 1, acc ++ [(i : Int)], f', by omega, by go_num, by rw [List.length_append, ← ints_snoc]; exact hown', by rw [List.append_assoc, HACC.out, HRN2.out], hf', by rw [List.length_append]; simp; omega, gb_own ((hg.trans (gb_drewN _ _ _)).trans (World.grownBy_alloc _ _ _)) ((own_kept0 hown (gb_drewN _ _ _)).alloc _) (Nat.le_refl _) hgrow⟩
                case measure => simp [intOf]; omega
            · have hn1' : near true x i p = false := by simpa using hn1
              have HF := Lib.hid (fine_f1 (x := x) (n := n) (k := j) HI0.out (show near true x i (i - 1) = false by rw [HIP.out]; exact hn1'))
              have hb1 : (FloatKind.f32.format.order (x i) (x p) == some .gt) = false := by rw [near_lobe]; exact hn1'
              clear hn1 hn1'
              have hrn2 := HRN.out
              rw [if_neg (fun q => by have q2 := q.2; rw [HF.out] at q2; cases q2), List.nil_append] at hrn2
              have HRN2 := Lib.hid hrn2
              clear hrn2
              go_wp2_with (go_at_call 151; refine (lobe_cl _ _ _).mono ?_; rintro e w' ⟨rfl, rfl⟩)
              go_roundw
              case rel => exact ⟨j + 1, acc, f', by omega, by go_num, HOWN.out, by rw [HACC.out, HRN2.out], hf', by omega, HG.out⟩
              case measure => simp [intOf]; omega
        · have hj2 : j + 1 < n := by omega
          have hd := cell_at hrd hj2 _ rfl
          rw [add_succ] at hd
          have s3 : ((j : Int) + 1).toNat = j + 1 := by omega
          have s4 : (j : Int) + 1 < n := by omega
          have s2 : (0 : Int) ≤ (j : Int) + 1 := by omega
          have hks : hi (runR x i) (n - 1 - j) j = if runR x i j (j + 1) then hi (runR x i) (n - 1 - (j + 1)) (j + 1) else j := by
            rw [show n - 1 - j = (n - 1 - (j + 1)) + 1 from by omega]; exact hi_succ (runR x i) _ _
          by_cases hr : runR x i j (j + 1) = true
          · have hk2 : hi (runR x i) (n - 1 - (j + 1)) (j + 1) = runK x n i := by rw [← hK, hks, if_pos hr]
            have hbq : (FloatKind.f32.format.order (x (j + 1)) (x i) == some .eq) = true := hr
            have HK := Lib.hid hk2
            clear hk2 hks hK hr
            go_wp2
            clear s3
            go_roundw
            case rel => exact ⟨j + 1, by omega, by omega, by go_num, HK.out, HOWN.out, HG.out⟩
            case measure => simp [intOf]; omega
          · have hkk : runK x n i = j := by rw [← hK, hks, if_neg hr]
            have hbq : (FloatKind.f32.format.order (x (j + 1)) (x i) == some .eq) = false := by simpa [runR] using hr
            clear hks hK hr hjj
            obtain ⟨f', hf', hrn⟩ := runs_step (s := true) HIN.out hf hkk hij
            have HRN := Lib.hid hrn
            clear hrn hkk
            have hne := Lib.hid (show ¬ (j + 1 = n) by omega)
            have hbe : ((j : Int) + 1 == (n : Int)) = false := by simp; omega
            have hj1 : IntKind.i64.wrap ((j : Int) + 1) = (j : Int) + 1 := IntWalk.i64_in _ (by omega)
            by_cases hi0' : i = 0
            · have hi00 : ((i : Int) == 0) = true := by simp [hi0']
              have HI0 := Lib.hid hi0'
              clear hi0'
              by_cases hn2 : near true x i (j + 1) = true
              · have HF := Lib.hid (fine_t (n := n) (.inl HI0.out) (.inr hn2))
                have hb2 : (FloatKind.f32.format.order (x i) (x (j + 1)) == some .gt) = true := by rw [near_lobe]; exact hn2
                clear hn2
                by_cases hnn : isNaN .f32 (x i) = true
                · have hnc := nan_call (x i)
                  rw [hnn] at hnc
                  have HN := Lib.hid hnc
                  have HNN := Lib.hid hnn
                  clear hnc hnn
                  have hrn2 := HRN.out
                  rw [if_neg (fun q => by rw [HNN.out] at q; exact absurd q.1 (by simp)), List.nil_append] at hrn2
                  have HRN2 := Lib.hid hrn2
                  clear hrn2
                  go_wp2_with (go_at_call 151; refine (lobe_cl _ _ _).mono ?_; rintro e w' ⟨rfl, rfl⟩)
                  refine (HN.out _).mono ?_
                  rintro e w' ⟨rfl, qn, rfl⟩
                  go_wp2_with fail
                  go_roundw
                  case rel => exact ⟨j + 1, acc, f', by omega, by go_num, own_kept0 HOWN.out (gb_drewN _ _ _), by rw [HACC.out, HRN2.out], hf', by omega, HG.out.trans (gb_drewN _ _ _)⟩
                  case measure => simp [intOf]; omega
                · have hnf : isNaN .f32 (x i) = false := by simpa using hnn
                  have hnc := nan_call (x i)
                  rw [hnf] at hnc
                  have HN := Lib.hid hnc
                  have HNN := Lib.hid hnf
                  clear hnc hnn hnf
                  have hrn2 := HRN.out
                  rw [if_pos ⟨HNN.out, HF.out⟩] at hrn2
                  have HRN2 := Lib.hid hrn2
                  clear hrn2
                  go_wp2_with (go_at_call 151; refine (lobe_cl _ _ _).mono ?_; rintro e w' ⟨rfl, rfl⟩)
                  refine (HN.out _).mono ?_
                  rintro e w' ⟨rfl, qn, rfl⟩
                  have hown := HOWN.out
                  have hg := HG.out
                  go_wp2_with (at_builtin; refine wpList_append_own _ rfl _ _ 30 rfl w.heap.size 2 i0 (.int .i64 0) 1 8 Try.underlying30 hi0 hz0 hz1 hz2 rfl (by decide) _ _ _ rfl ((own_kept0 hown (gb_drewN _ _ _)).alloc _) ⟨wr.heap.size, 0, none⟩ 1 1 [.int .i64 (i : Int)] rfl rfl (cell_one_new _ _ _) (int_one _ _) (by unfold maxLen; omega) (by omega) (Nat.le_trans hg.size (by simp)) ?_; intro v' w1 hown' hgrow _)
                  go_roundw
                  case rel => exact ⟨j + 1, acc ++ [(i : Int)], f', by omega, by go_num, by rw [List.length_append, ← ints_snoc]; exact hown', by rw [List.append_assoc, HACC.out, HRN2.out], hf', by rw [List.length_append]; simp; omega, gb_own ((hg.trans (gb_drewN _ _ _)).trans (World.grownBy_alloc _ _ _)) ((own_kept0 hown (gb_drewN _ _ _)).alloc _) (Nat.le_refl _) hgrow⟩
                  case measure => simp [intOf]; omega
              · have hn2' : near true x i (j + 1) = false := by simpa using hn2
                have HF := Lib.hid (fine_f2 (x := x) (n := n) hne.out hn2')
                have hb2 : (FloatKind.f32.format.order (x i) (x (j + 1)) == some .gt) = false := by rw [near_lobe]; exact hn2'
                clear hn2 hn2'
                have hrn2 := HRN.out
                rw [if_neg (fun q => by have q2 := q.2; rw [HF.out] at q2; cases q2), List.nil_append] at hrn2
                have HRN2 := Lib.hid hrn2
                clear hrn2
                go_wp2_with (go_at_call 151; refine (lobe_cl _ _ _).mono ?_; rintro e w' ⟨rfl, rfl⟩)
                go_roundw
                case rel => exact ⟨j + 1, acc, f', by omega, by go_num, HOWN.out, by rw [HACC.out, HRN2.out], hf', by omega, HG.out⟩
                case measure => simp [intOf]; omega
            · obtain ⟨p, hp⟩ : ∃ p, i = p + 1 := ⟨i - 1, by omega⟩
              have hi00 : ((i : Int) == 0) = false := by simp; omega
              have hpn : p < n := by omega
              have hcp := cell_at hrd hpn _ rfl
              have hp0 : (0 : Int) ≤ p := by omega
              have hp1 : (p : Int) < n := by omega
              have hsub : IntKind.i64.wrap ((i : Int) - 1) = (p : Int) := by rw [show (i : Int) - 1 = (p : Int) from by omega]; exact IntWalk.i64_in _ (by omega)
              have hsub' : (i : Int) - 1 = (p : Int) := by omega
              have hip : i - 1 = p := by omega
              have HIP := Lib.hid hip
              have HI0 := Lib.hid hi0'
              clear hi0' hp hip
              by_cases hn1 : near true x i p = true
              · have HN1 := Lib.hid (show near true x i (i - 1) = true by rw [HIP.out]; exact hn1)
                have hb1 : (FloatKind.f32.format.order (x i) (x p) == some .gt) = true := by rw [near_lobe]; exact hn1
                clear hn1
                by_cases hn2 : near true x i (j + 1) = true
                · have HF := Lib.hid (fine_t (n := n) (.inr HN1.out) (.inr hn2))
                  have hb2 : (FloatKind.f32.format.order (x i) (x (j + 1)) == some .gt) = true := by rw [near_lobe]; exact hn2
                  clear hn2
                  by_cases hnn : isNaN .f32 (x i) = true
                  · have hnc := nan_call (x i)
                    rw [hnn] at hnc
                    have HN := Lib.hid hnc
                    have HNN := Lib.hid hnn
                    clear hnc hnn
                    have hrn2 := HRN.out
                    rw [if_neg (fun q => by rw [HNN.out] at q; exact absurd q.1 (by simp)), List.nil_append] at hrn2
                    have HRN2 := Lib.hid hrn2
                    clear hrn2
                    go_wp2_with (go_at_call 151; refine (lobe_cl _ _ _).mono ?_; rintro e w' ⟨rfl, rfl⟩)
                    refine (HN.out _).mono ?_
                    rintro e w' ⟨rfl, qn, rfl⟩
                    go_wp2_with fail
                    go_roundw
                    case rel => exact ⟨j + 1, acc, f', by omega, by go_num, own_kept0 HOWN.out (gb_drewN _ _ _), by rw [HACC.out, HRN2.out], hf', by omega, HG.out.trans (gb_drewN _ _ _)⟩
                    case measure => simp [intOf]; omega
                  · have hnf : isNaN .f32 (x i) = false := by simpa using hnn
                    have hnc := nan_call (x i)
                    rw [hnf] at hnc
                    have HN := Lib.hid hnc
                    have HNN := Lib.hid hnf
                    clear hnc hnn hnf
                    have hrn2 := HRN.out
                    rw [if_pos ⟨HNN.out, HF.out⟩] at hrn2
                    have HRN2 := Lib.hid hrn2
                    clear hrn2
                    go_wp2_with (go_at_call 151; refine (lobe_cl _ _ _).mono ?_; rintro e w' ⟨rfl, rfl⟩)
                    refine (HN.out _).mono ?_
                    rintro e w' ⟨rfl, qn, rfl⟩
                    have hown := HOWN.out
                    have hg := HG.out
                    go_wp2_with (at_builtin; refine wpList_append_own _ rfl _ _ 30 rfl w.heap.size 2 i0 (.int .i64 0) 1 8 Try.underlying30 hi0 hz0 hz1 hz2 rfl (by decide) _ _ _ rfl ((own_kept0 hown (gb_drewN _ _ _)).alloc _) ⟨wr.heap.size, 0, none⟩ 1 1 [.int .i64 (i : Int)] rfl rfl (cell_one_new _ _ _) (int_one _ _) (by unfold maxLen; omega) (by omega) (Nat.le_trans hg.size (by simp)) ?_; intro v' w1 hown' hgrow _)
                    go_roundw
                    case rel => exact ⟨j + 1, acc ++ [(i : Int)], f', by omega, by go_num, by rw [List.length_append, ← ints_snoc]; exact hown', by rw [List.append_assoc, HACC.out, HRN2.out], hf', by rw [List.length_append]; simp; omega, gb_own ((hg.trans (gb_drewN _ _ _)).trans (World.grownBy_alloc _ _ _)) ((own_kept0 hown (gb_drewN _ _ _)).alloc _) (Nat.le_refl _) hgrow⟩
                    case measure => simp [intOf]; omega
                · have hn2' : near true x i (j + 1) = false := by simpa using hn2
                  have HF := Lib.hid (fine_f2 (x := x) (n := n) hne.out hn2')
                  have hb2 : (FloatKind.f32.format.order (x i) (x (j + 1)) == some .gt) = false := by rw [near_lobe]; exact hn2'
                  clear hn2 hn2'
                  have hrn2 := HRN.out
                  rw [if_neg (fun q => by have q2 := q.2; rw [HF.out] at q2; cases q2), List.nil_append] at hrn2
                  have HRN2 := Lib.hid hrn2
                  clear hrn2
                  go_wp2_with (go_at_call 151; refine (lobe_cl _ _ _).mono ?_; rintro e w' ⟨rfl, rfl⟩)
                  go_roundw
                  case rel => exact ⟨j + 1, acc, f', by omega, by go_num, HOWN.out, by rw [HACC.out, HRN2.out], hf', by omega, HG.out⟩
                  case measure => simp [intOf]; omega
              · have hn1' : near true x i p = false := by simpa using hn1
                have HF := Lib.hid (fine_f1 (x := x) (n := n) (k := j) HI0.out (show near true x i (i - 1) = false by rw [HIP.out]; exact hn1'))
                have hb1 : (FloatKind.f32.format.order (x i) (x p) == some .gt) = false := by rw [near_lobe]; exact hn1'
                clear hn1 hn1'
                have hrn2 := HRN.out
                rw [if_neg (fun q => by have q2 := q.2; rw [HF.out] at q2; cases q2), List.nil_append] at hrn2
                have HRN2 := Lib.hid hrn2
                clear hrn2
                go_wp2_with (go_at_call 151; refine (lobe_cl _ _ _).mono ?_; rintro e w' ⟨rfl, rfl⟩)
                go_roundw
                case rel => exact ⟨j + 1, acc, f', by omega, by go_num, HOWN.out, by rw [HACC.out, HRN2.out], hf', by omega, HG.out⟩
                case measure => simp [intOf]; omega
    · obtain rfl : i = n := by omega
      rw [runs_done (Nat.le_refl _), List.append_nil] at HACC
      go_wp2
      go_ret2
      exact ⟨_, _, by rw [HACC.out]; rfl, by rw [HACC.out]; exact hown, hg⟩


end Go.Proofs.Ytkjmlpdbnnmlhab.runs2
