/- Tapers, by the model and by the program. -/
import Derived.Test.YtjmgohlepglkoaaRows
import Derived.Test.YtjmgohlepglkoaaSlc
import Derived.Test.YtjmgohlepglkoaaSmall
import Derived.Test.YtjmgohlepglkoaaListI
import Derived.Test.YtjmgohlepglkoaaMarks
import Derived.Test.YtjmgohlepglkoaaFloats
import Derived.Test.YtjmgohlepglkoaaRound
import Derived.Test.YtjmgohlepglkoaaValues
import Derived.Test.YtjmgohlepglkoaaConv
import Derived.Test.YtjmgohlepglkoaaFWalk
import Derived.Test.YtjmgohlepglkoaaFinWalk
import Derived.Test.YtjmgohlepglkoaaFloat2
import Derived.Test.YtjmgohlepglkoaaFloat3
import Derived.Test.YtjmgohlepglkoaaPhase
import Derived.Test.YtjmgohlepglkoaaSine
import Derived.Test.YtjmgohlepglkoaaPhasor
import Derived.Test.YtjmgohlepglkoaaListC
import Derived.Test.YtjmgohlepglkoaaSteerNum
import Derived.Test.YtjmgohlepglkoaaRingNum
import Derived.Test.YtjmgohlepglkoaaTaperNum
import Derived.Test.YtjmgohlepglkoaaListF
import Derived.Test.YtjmgohlepglkoaaHeldF
import Derived.Test.YtjmgohlepglkoaaTaper
import Derived.WalkKit
import Derived.ProofKit
import Derived.OpenShut
import Derived.ShutString
import Derived.ChangeOld
import Derived.Below
import Derived.Lib.Hide
import Derived.BigQuiet
import Derived.Deep.QuietTactic
import Derived.WalkLawsBesides
import Derived.Outline
import Derived.Deep.QuietTactic
import Derived.BigQuiet
import Derived.Deep.LoopGhost
namespace Go.Proofs.Ytjmgohlepglkoaa.taper2
open Go.ChangeShapes Go.WideShapes Go.ChangeAt Go.RowKit
open Go.ChangeMaps (open_string shut_string)
set_option linter.unusedVariables false
open Go Ieee Go.RowKit
open Go.Proofs.Ytjmgohlepglkoaa.slc Go.Proofs.Ytjmgohlepglkoaa.small Go.Proofs.Ytjmgohlepglkoaa.marks Go.Proofs.Ytjmgohlepglkoaa.floats Go.Proofs.Ytjmgohlepglkoaa.round Go.Proofs.Ytjmgohlepglkoaa.values Go.Proofs.Ytjmgohlepglkoaa.conv Go.Proofs.Ytjmgohlepglkoaa.fWalk Go.Proofs.Ytjmgohlepglkoaa.phase Go.Proofs.Ytjmgohlepglkoaa.sine Go.Proofs.Ytjmgohlepglkoaa.phasor Go.Proofs.Ytjmgohlepglkoaa.ringNum Go.Proofs.Ytjmgohlepglkoaa.taperNum Go.Proofs.Ytjmgohlepglkoaa.listF Go.Proofs.Ytjmgohlepglkoaa.heldF Go.Proofs.Ytjmgohlepglkoaa.taper
attribute [local go_sem] cvi6432

theorem fl_snoc (x : Nat → Nat) (k : Nat) : lst (fl x) (k + 1) = lst (fl x) k ++ [.float .f32 (x k)] := by simp [lst, List.range_succ, fl]
theorem flt_one (x : Nat) : ∀ u ∈ [Value.float .f32 x], u.oneCell' = true := by
  intro u hu
  have : u = .float .f32 x := by simpa using hu
  subst this
  rfl
theorem min_spec (n k : Nat) (w : World) :
    Calls Try.prog 53 #[.int .i64 ((k : Int) + 1), .int .i64 ((n : Int) - k)] w fun e w' => e = .returned (.int .i64 (tm n k)) ∧ w = w' := by
  by_cases h : (k : Int) + 1 < (n : Int) - k
  · have e : tm n k = (k : Int) + 1 := by unfold tm; rw [if_neg (by omega)]
    rw [e]
    go_enter Try.func53, Try.ntmps53
    go_wp2
    go_ret
    exact ⟨rfl, rfl⟩
  · have e : tm n k = (n : Int) - k := by unfold tm; split <;> omega
    rw [e]
    have h' : (n : Int) - k ≤ (k : Int) + 1 := by omega
    go_enter Try.func53, Try.ntmps53
    go_wp2
    go_ret
    exact ⟨rfl, rfl⟩
theorem max_spec (a b : Int) (w : World) :
    Calls Try.prog 52 #[.int .i64 a, .int .i64 b] w fun e w' => e = .returned (.int .i64 (if a < b then b else a)) ∧ w = w' := by
  by_cases h : b < a
  · rw [if_neg (by omega)]
    go_enter Try.func52, Try.ntmps52
    go_wp2
    go_ret
    exact ⟨rfl, rfl⟩
  · have e : (if a < b then b else a) = b := by split <;> omega
    rw [e]
    go_enter Try.func52, Try.ntmps52
    go_wp2
    go_ret
    exact ⟨rfl, rfl⟩


set_option maxHeartbeats 1600000 in
set_option maxRecDepth 100000 in
theorem sp_even (n : Nat) (h1 : 1 ≤ n) (hn : n ≤ 16) (w : World) :
    Calls Try.prog 13 #[.int .i64 0, .int .i64 n] w fun e w' => ∃ A c, e = .returned (.tuple #[.slice A n c, .bool true]) ∧ w'.ownsRow w.heap.size 51 1 (.slice A n c) n (lst (fl (fun _ : Nat => 1065353216)) n) ∧ w.grownBy w' none := by
  obtain ⟨i0, hi0, hz0, hz1, hz2⟩ := info_parts info32
  have p1 : (1 : Int) ≤ n := by omega
  have p2 : (n : Int) ≤ 16 := by omega
  go_enter Try.func13, Try.ntmps13
  go_wp2_with fail
  refine (in_yes _ _ _ _ (by omega) (by omega)).mono ?_
  rintro e w' ⟨rfl, rfl⟩
  go_wp2_with fail
  refine (in_yes _ _ _ _ p1 p2).mono ?_
  rintro e w' ⟨rfl, rfl⟩
  go_wp2_with fail
  go_loopw [7, 8, 9] (fun v m i wr => ∃ k : Nat, k < n ∧ i = .int .i64 ((k : Int) + 1) ∧ v = .int .i64 (wy ((n : Int) - 1) k) ∧ m = .int .i64 (wm ((n : Int) - 1) k) ∧ wr = w.alloc (.cells #[] 51)) (fun _ _ i _ => n - (intOf i).toNat)
  case atStart => exact ⟨0, by omega, rfl, rfl, rfl, rfl⟩
  case round =>
    obtain ⟨k, hk, rfl, rfl, rfl, rfl⟩ := hrel
    by_cases hlt : k + 1 < n
    · obtain ⟨b1, b2⟩ := wy_bd (n - 1) (by omega) k (by omega)
      obtain ⟨b3, b4⟩ := wy_mul (o := n - 1) (i := k) (by omega) (by omega)
      have hs := wy_succ ((n : Int) - 1) k
      have hm := wm_succ ((n : Int) - 1) k
      have b5 := (wy_bd (n - 1) (by omega) (k + 1) (by omega)).1
      have b6 := (wy_bd (n - 1) (by omega) (k + 1) (by omega)).2
      rw [show ((n - 1 : Nat) : Int) = (n : Int) - 1 by omega] at b1 b2 b3 b4 b5 b6
      rw [hs] at b5 b6 hm
      have e1 : (n : Int) - 1 - k = (n : Int) - (k + 1) := by omega
      rw [e1] at b3 b4 b5 b6 hm hs
      have HS := Lib.hid hs
      have HM := Lib.hid hm
      clear hs hm e1
      generalize wy ((n : Int) - 1) k = W at *
      generalize wm ((n : Int) - 1) k = M at *
      have hk1 : (k : Int) + 1 < n := by omega
      go_wp2_with fail
      refine (max_spec _ _ _).mono ?_
      rintro e w' ⟨rfl, rfl⟩
      go_wp2_with fail
      go_roundw
      case rel => exact ⟨k + 1, by omega, by go_num, by rw [HS.out], by rw [HM.out], trivial⟩
      case measure => simp [intOf]; omega
    · have hkn : k = n - 1 := by omega
      have hge : ¬ (k : Int) + 1 < n := by omega
      have hmm : wm ((n : Int) - 1) k = wy ((n : Int) - 1) ((n - 1) / 2) := by
        have := wm_mid (n - 1) (by omega)
        rw [show ((n - 1 : Nat) : Int) = (n : Int) - 1 by omega] at this
        rw [hkn, this]
      rw [hmm]
      clear hmm
      generalize wy ((n : Int) - 1) k = W at *
      go_wp2_with fail
      clear hkn hge hk hlt
      go_loopw [6, 7, 10] (fun v y i wr => ∃ k : Nat, k ≤ n ∧ i = .int .i64 k ∧ y = .int .i64 (1) ∧ wr.ownsRow w.heap.size 51 1 v k (lst (fl (fun _ : Nat => 1065353216)) k) ∧ w.grownBy wr none) (fun _ _ i _ => n - (intOf i).toNat)
      case atStart => exact ⟨0, by omega, rfl, rfl, World.ownsRow_lit w #[] 0 (Nat.le_refl _) (Nat.zero_le _) rfl, World.grownBy_alloc _ _ _⟩
      case round =>
        obtain ⟨k, hk, rfl, rfl, hown, hg⟩ := hrel
        by_cases hlt : k < n
        · have hsn := fl_snoc (fun _ : Nat => 1065353216) k
          have HSN := Lib.hid hsn
          clear hsn
          have hk1 : (k : Int) < n := by omega
          have hbs := Nat.le_trans hg.size (show wr.heap.size ≤ (wr.alloc (.cells #[.float .f32 1065353216] 51)).heap.size by simp)
          go_wp2_with (at_builtin; refine wpList_append_own _ rfl _ _ 22 rfl w.heap.size 51 i0 (.float .f32 0) 1 4 Try.underlying22 hi0 hz0 hz1 hz2 rfl (by decide) _ _ _ rfl (hown.alloc _) ⟨wr.heap.size, 0, none⟩ 1 1 [.float .f32 1065353216] rfl rfl (cell_one_new _ _ _) (flt_one _) (by unfold maxLen; omega) (by omega) hbs ?_; intro v' w4 hown' hgrow _)
          go_roundw
          case rel => exact ⟨k + 1, by omega, by go_num, rfl, by rw [HSN.out]; exact hown', gb_own (hg.trans (World.grownBy_alloc _ _ _)) (hown.alloc _) (Nat.le_refl _) hgrow⟩
          case measure => simp [intOf]; omega
        · obtain rfl : k = n := by omega
          obtain ⟨A', c', rfl⟩ := own_form hown
          go_wp2_with fail
          go_ret2
          exact ⟨_, _, rfl, hown, hg⟩

set_option maxHeartbeats 1600000 in
set_option maxRecDepth 100000 in
theorem sp_tri (n : Nat) (h1 : 1 ≤ n) (hn : n ≤ 16) (w : World) :
    Calls Try.prog 13 #[.int .i64 1, .int .i64 n] w fun e w' => ∃ A c, e = .returned (.tuple #[.slice A n c, .bool true]) ∧ w'.ownsRow w.heap.size 51 1 (.slice A n c) n (lst (fl (fun k : Nat => ttri (tm n k) ((n : Int) + 1))) n) ∧ w.grownBy w' none := by
  obtain ⟨i0, hi0, hz0, hz1, hz2⟩ := info_parts info32
  have p1 : (1 : Int) ≤ n := by omega
  have p2 : (n : Int) ≤ 16 := by omega
  go_enter Try.func13, Try.ntmps13
  go_wp2_with fail
  refine (in_yes _ _ _ _ (by omega) (by omega)).mono ?_
  rintro e w' ⟨rfl, rfl⟩
  go_wp2_with fail
  refine (in_yes _ _ _ _ p1 p2).mono ?_
  rintro e w' ⟨rfl, rfl⟩
  go_wp2_with fail
  go_loopw [7, 8, 9] (fun v m i wr => ∃ k : Nat, k < n ∧ i = .int .i64 ((k : Int) + 1) ∧ v = .int .i64 (wy ((n : Int) - 1) k) ∧ m = .int .i64 (wm ((n : Int) - 1) k) ∧ wr = w.alloc (.cells #[] 51)) (fun _ _ i _ => n - (intOf i).toNat)
  case atStart => exact ⟨0, by omega, rfl, rfl, rfl, rfl⟩
  case round =>
    obtain ⟨k, hk, rfl, rfl, rfl, rfl⟩ := hrel
    by_cases hlt : k + 1 < n
    · obtain ⟨b1, b2⟩ := wy_bd (n - 1) (by omega) k (by omega)
      obtain ⟨b3, b4⟩ := wy_mul (o := n - 1) (i := k) (by omega) (by omega)
      have hs := wy_succ ((n : Int) - 1) k
      have hm := wm_succ ((n : Int) - 1) k
      have b5 := (wy_bd (n - 1) (by omega) (k + 1) (by omega)).1
      have b6 := (wy_bd (n - 1) (by omega) (k + 1) (by omega)).2
      rw [show ((n - 1 : Nat) : Int) = (n : Int) - 1 by omega] at b1 b2 b3 b4 b5 b6
      rw [hs] at b5 b6 hm
      have e1 : (n : Int) - 1 - k = (n : Int) - (k + 1) := by omega
      rw [e1] at b3 b4 b5 b6 hm hs
      have HS := Lib.hid hs
      have HM := Lib.hid hm
      clear hs hm e1
      generalize wy ((n : Int) - 1) k = W at *
      generalize wm ((n : Int) - 1) k = M at *
      have hk1 : (k : Int) + 1 < n := by omega
      go_wp2_with fail
      refine (max_spec _ _ _).mono ?_
      rintro e w' ⟨rfl, rfl⟩
      go_wp2_with fail
      go_roundw
      case rel => exact ⟨k + 1, by omega, by go_num, by rw [HS.out], by rw [HM.out], trivial⟩
      case measure => simp [intOf]; omega
    · have hkn : k = n - 1 := by omega
      have hge : ¬ (k : Int) + 1 < n := by omega
      have hmm : wm ((n : Int) - 1) k = wy ((n : Int) - 1) ((n - 1) / 2) := by
        have := wm_mid (n - 1) (by omega)
        rw [show ((n - 1 : Nat) : Int) = (n : Int) - 1 by omega] at this
        rw [hkn, this]
      rw [hmm]
      clear hmm
      generalize wy ((n : Int) - 1) k = W at *
      go_wp2_with fail
      clear hkn hge hk hlt
      go_loopw [6, 7, 10] (fun v y i wr => ∃ k : Nat, k ≤ n ∧ i = .int .i64 k ∧ y = .int .i64 (1) ∧ wr.ownsRow w.heap.size 51 1 v k (lst (fl (fun k : Nat => ttri (tm n k) ((n : Int) + 1))) k) ∧ w.grownBy wr none) (fun _ _ i _ => n - (intOf i).toNat)
      case atStart => exact ⟨0, by omega, rfl, rfl, World.ownsRow_lit w #[] 0 (Nat.le_refl _) (Nat.zero_le _) rfl, World.grownBy_alloc _ _ _⟩
      case round =>
        obtain ⟨k, hk, rfl, rfl, hown, hg⟩ := hrel
        by_cases hlt : k < n
        · have hsn := fl_snoc (fun k : Nat => ttri (tm n k) ((n : Int) + 1)) k
          have HSN := Lib.hid hsn
          clear hsn
          have hk1 : (k : Int) < n := by omega
          obtain ⟨q1, q2⟩ := tri_eq hlt hn
          have r1 := run32 (P := Try.prog) q1 rfl
          have r2 := run32 (P := Try.prog) q2 rfl
          have HP := Lib.hid (fun w => min_spec n k w)
          clear q1 q2
          generalize ttri (tm n k) ((n : Int) + 1) = R at *
          generalize t2 (tm n k) = R2 at *
          generalize tm n k = TM at *
          go_wp2_with fail
          refine (HP.out _).mono ?_
          rintro e w' ⟨rfl, rfl⟩
          have hbs := Nat.le_trans hg.size (show wr.heap.size ≤ (wr.alloc (.cells #[.float .f32 R] 51)).heap.size by simp)
          go_wp2_with (at_builtin; refine wpList_append_own _ rfl _ _ 22 rfl w.heap.size 51 i0 (.float .f32 0) 1 4 Try.underlying22 hi0 hz0 hz1 hz2 rfl (by decide) _ _ _ rfl (hown.alloc _) ⟨wr.heap.size, 0, none⟩ 1 1 [.float .f32 R] rfl rfl (cell_one_new _ _ _) (flt_one _) (by unfold maxLen; omega) (by omega) hbs ?_; intro v' w4 hown' hgrow _)
          go_roundw
          case rel => exact ⟨k + 1, by omega, by go_num, rfl, by rw [HSN.out]; exact hown', gb_own (hg.trans (World.grownBy_alloc _ _ _)) (hown.alloc _) (Nat.le_refl _) hgrow⟩
          case measure => simp [intOf]; omega
        · obtain rfl : k = n := by omega
          obtain ⟨A', c', rfl⟩ := own_form hown
          go_wp2_with fail
          go_ret2
          exact ⟨_, _, rfl, hown, hg⟩

set_option maxHeartbeats 1600000 in
set_option maxRecDepth 100000 in
theorem sp_cos (n : Nat) (h1 : 1 ≤ n) (hn : n ≤ 16) (w : World) :
    Calls Try.prog 13 #[.int .i64 2, .int .i64 n] w fun e w' => ∃ A c, e = .returned (.tuple #[.slice A n c, .bool true]) ∧ w'.ownsRow w.heap.size 51 1 (.slice A n c) n (lst (fl (fun k : Nat => tcos ((k : Int) + 1) ((n : Int) + 1))) n) ∧ w.grownBy w' none := by
  obtain ⟨i0, hi0, hz0, hz1, hz2⟩ := info_parts info32
  have p1 : (1 : Int) ≤ n := by omega
  have p2 : (n : Int) ≤ 16 := by omega
  go_enter Try.func13, Try.ntmps13
  go_wp2_with fail
  refine (in_yes _ _ _ _ (by omega) (by omega)).mono ?_
  rintro e w' ⟨rfl, rfl⟩
  go_wp2_with fail
  refine (in_yes _ _ _ _ p1 p2).mono ?_
  rintro e w' ⟨rfl, rfl⟩
  go_wp2_with fail
  go_loopw [7, 8, 9] (fun v m i wr => ∃ k : Nat, k < n ∧ i = .int .i64 ((k : Int) + 1) ∧ v = .int .i64 (wy ((n : Int) - 1) k) ∧ m = .int .i64 (wm ((n : Int) - 1) k) ∧ wr = w.alloc (.cells #[] 51)) (fun _ _ i _ => n - (intOf i).toNat)
  case atStart => exact ⟨0, by omega, rfl, rfl, rfl, rfl⟩
  case round =>
    obtain ⟨k, hk, rfl, rfl, rfl, rfl⟩ := hrel
    by_cases hlt : k + 1 < n
    · obtain ⟨b1, b2⟩ := wy_bd (n - 1) (by omega) k (by omega)
      obtain ⟨b3, b4⟩ := wy_mul (o := n - 1) (i := k) (by omega) (by omega)
      have hs := wy_succ ((n : Int) - 1) k
      have hm := wm_succ ((n : Int) - 1) k
      have b5 := (wy_bd (n - 1) (by omega) (k + 1) (by omega)).1
      have b6 := (wy_bd (n - 1) (by omega) (k + 1) (by omega)).2
      rw [show ((n - 1 : Nat) : Int) = (n : Int) - 1 by omega] at b1 b2 b3 b4 b5 b6
      rw [hs] at b5 b6 hm
      have e1 : (n : Int) - 1 - k = (n : Int) - (k + 1) := by omega
      rw [e1] at b3 b4 b5 b6 hm hs
      have HS := Lib.hid hs
      have HM := Lib.hid hm
      clear hs hm e1
      generalize wy ((n : Int) - 1) k = W at *
      generalize wm ((n : Int) - 1) k = M at *
      have hk1 : (k : Int) + 1 < n := by omega
      go_wp2_with fail
      refine (max_spec _ _ _).mono ?_
      rintro e w' ⟨rfl, rfl⟩
      go_wp2_with fail
      go_roundw
      case rel => exact ⟨k + 1, by omega, by go_num, by rw [HS.out], by rw [HM.out], trivial⟩
      case measure => simp [intOf]; omega
    · have hkn : k = n - 1 := by omega
      have hge : ¬ (k : Int) + 1 < n := by omega
      have hmm : wm ((n : Int) - 1) k = wy ((n : Int) - 1) ((n - 1) / 2) := by
        have := wm_mid (n - 1) (by omega)
        rw [show ((n - 1 : Nat) : Int) = (n : Int) - 1 by omega] at this
        rw [hkn, this]
      rw [hmm]
      clear hmm
      generalize wy ((n : Int) - 1) k = W at *
      go_wp2_with fail
      clear hkn hge hk hlt
      go_loopw [6, 7, 10] (fun v y i wr => ∃ k : Nat, k ≤ n ∧ i = .int .i64 k ∧ y = .int .i64 (1) ∧ wr.ownsRow w.heap.size 51 1 v k (lst (fl (fun k : Nat => tcos ((k : Int) + 1) ((n : Int) + 1))) k) ∧ w.grownBy wr none) (fun _ _ i _ => n - (intOf i).toNat)
      case atStart => exact ⟨0, by omega, rfl, rfl, World.ownsRow_lit w #[] 0 (Nat.le_refl _) (Nat.zero_le _) rfl, World.grownBy_alloc _ _ _⟩
      case round =>
        obtain ⟨k, hk, rfl, rfl, hown, hg⟩ := hrel
        by_cases hlt : k < n
        · have hsn := fl_snoc (fun k : Nat => tcos ((k : Int) + 1) ((n : Int) + 1)) k
          have HSN := Lib.hid hsn
          clear hsn
          have hk1 : (k : Int) < n := by omega
          obtain ⟨_, q2, q3⟩ := cos_eq hlt hn
          have r2 := run32 (P := Try.prog) q2 rfl
          have r3 := run32 (P := Try.prog) q3 rfl
          obtain ⟨k1, k2, k3, k4⟩ := kq_ok ((k : Int) + 1) ((n : Int) + 1) (by omega) (by omega) (by omega)
          have rq := run_ok (P := Try.prog) k1 rfl
          have hp := fun w => phx_spec (kq ((k : Int) + 1) ((n : Int) + 1)) w k2 k3
          have e : (phx (kq ((k : Int) + 1) ((n : Int) + 1))).1 = tcr ((k : Int) + 1) ((n : Int) + 1) := rfl
          rw [e] at hp
          have HP := Lib.hid hp
          clear q2 q3 hp e k1 k2 k3 k4
          generalize tcr ((k : Int) + 1) ((n : Int) + 1) = C at *
          generalize tcos ((k : Int) + 1) ((n : Int) + 1) = R at *
          generalize tch ((k : Int) + 1) ((n : Int) + 1) = R2 at *
          go_wp2_with fail
          refine (HP.out _).mono ?_
          rintro e w' ⟨rfl, rfl⟩
          have hbs := Nat.le_trans hg.size (show wr.heap.size ≤ (wr.alloc (.cells #[.float .f32 R] 51)).heap.size by simp)
          go_wp2_with (at_builtin; refine wpList_append_own _ rfl _ _ 22 rfl w.heap.size 51 i0 (.float .f32 0) 1 4 Try.underlying22 hi0 hz0 hz1 hz2 rfl (by decide) _ _ _ rfl (hown.alloc _) ⟨wr.heap.size, 0, none⟩ 1 1 [.float .f32 R] rfl rfl (cell_one_new _ _ _) (flt_one _) (by unfold maxLen; omega) (by omega) hbs ?_; intro v' w4 hown' hgrow _)
          go_roundw
          case rel => exact ⟨k + 1, by omega, by go_num, rfl, by rw [HSN.out]; exact hown', gb_own (hg.trans (World.grownBy_alloc _ _ _)) (hown.alloc _) (Nat.le_refl _) hgrow⟩
          case measure => simp [intOf]; omega
        · obtain rfl : k = n := by omega
          obtain ⟨A', c', rfl⟩ := own_form hown
          go_wp2_with fail
          go_ret2
          exact ⟨_, _, rfl, hown, hg⟩

set_option maxHeartbeats 1600000 in
set_option maxRecDepth 100000 in
theorem sp_bin (n : Nat) (h1 : 1 ≤ n) (hn : n ≤ 16) (w : World) :
    Calls Try.prog 13 #[.int .i64 3, .int .i64 n] w fun e w' => ∃ A c, e = .returned (.tuple #[.slice A n c, .bool true]) ∧ w'.ownsRow w.heap.size 51 1 (.slice A n c) n (lst (fl (fun k : Nat => tbin (wy ((n : Int) - 1) k) (wy ((n : Int) - 1) ((n - 1) / 2)))) n) ∧ w.grownBy w' none := by
  obtain ⟨i0, hi0, hz0, hz1, hz2⟩ := info_parts info32
  have p1 : (1 : Int) ≤ n := by omega
  have p2 : (n : Int) ≤ 16 := by omega
  go_enter Try.func13, Try.ntmps13
  go_wp2_with fail
  refine (in_yes _ _ _ _ (by omega) (by omega)).mono ?_
  rintro e w' ⟨rfl, rfl⟩
  go_wp2_with fail
  refine (in_yes _ _ _ _ p1 p2).mono ?_
  rintro e w' ⟨rfl, rfl⟩
  go_wp2_with fail
  go_loopw [7, 8, 9] (fun v m i wr => ∃ k : Nat, k < n ∧ i = .int .i64 ((k : Int) + 1) ∧ v = .int .i64 (wy ((n : Int) - 1) k) ∧ m = .int .i64 (wm ((n : Int) - 1) k) ∧ wr = w.alloc (.cells #[] 51)) (fun _ _ i _ => n - (intOf i).toNat)
  case atStart => exact ⟨0, by omega, rfl, rfl, rfl, rfl⟩
  case round =>
    obtain ⟨k, hk, rfl, rfl, rfl, rfl⟩ := hrel
    by_cases hlt : k + 1 < n
    · obtain ⟨b1, b2⟩ := wy_bd (n - 1) (by omega) k (by omega)
      obtain ⟨b3, b4⟩ := wy_mul (o := n - 1) (i := k) (by omega) (by omega)
      have hs := wy_succ ((n : Int) - 1) k
      have hm := wm_succ ((n : Int) - 1) k
      have b5 := (wy_bd (n - 1) (by omega) (k + 1) (by omega)).1
      have b6 := (wy_bd (n - 1) (by omega) (k + 1) (by omega)).2
      rw [show ((n - 1 : Nat) : Int) = (n : Int) - 1 by omega] at b1 b2 b3 b4 b5 b6
      rw [hs] at b5 b6 hm
      have e1 : (n : Int) - 1 - k = (n : Int) - (k + 1) := by omega
      rw [e1] at b3 b4 b5 b6 hm hs
      have HS := Lib.hid hs
      have HM := Lib.hid hm
      clear hs hm e1
      generalize wy ((n : Int) - 1) k = W at *
      generalize wm ((n : Int) - 1) k = M at *
      have hk1 : (k : Int) + 1 < n := by omega
      go_wp2_with fail
      refine (max_spec _ _ _).mono ?_
      rintro e w' ⟨rfl, rfl⟩
      go_wp2_with fail
      go_roundw
      case rel => exact ⟨k + 1, by omega, by go_num, by rw [HS.out], by rw [HM.out], trivial⟩
      case measure => simp [intOf]; omega
    · have hkn : k = n - 1 := by omega
      have hge : ¬ (k : Int) + 1 < n := by omega
      have hmm : wm ((n : Int) - 1) k = wy ((n : Int) - 1) ((n - 1) / 2) := by
        have := wm_mid (n - 1) (by omega)
        rw [show ((n - 1 : Nat) : Int) = (n : Int) - 1 by omega] at this
        rw [hkn, this]
      rw [hmm]
      clear hmm
      generalize wy ((n : Int) - 1) k = W at *
      go_wp2_with fail
      clear hkn hge hk hlt
      go_loopw [6, 7, 10] (fun v y i wr => ∃ k : Nat, k ≤ n ∧ i = .int .i64 k ∧ y = .int .i64 (wy ((n : Int) - 1) k) ∧ wr.ownsRow w.heap.size 51 1 v k (lst (fl (fun k : Nat => tbin (wy ((n : Int) - 1) k) (wy ((n : Int) - 1) ((n - 1) / 2)))) k) ∧ w.grownBy wr none) (fun _ _ i _ => n - (intOf i).toNat)
      case atStart => exact ⟨0, by omega, rfl, rfl, World.ownsRow_lit w #[] 0 (Nat.le_refl _) (Nat.zero_le _) rfl, World.grownBy_alloc _ _ _⟩
      case round =>
        obtain ⟨k, hk, rfl, rfl, hown, hg⟩ := hrel
        by_cases hlt : k < n
        · have hsn := fl_snoc (fun k : Nat => tbin (wy ((n : Int) - 1) k) (wy ((n : Int) - 1) ((n - 1) / 2))) k
          have HSN := Lib.hid hsn
          clear hsn
          have hk1 : (k : Int) < n := by omega
          have r1 := run32 (P := Try.prog) (bin_eq hlt hn) rfl
          obtain ⟨b1, b2⟩ := wy_bd (n - 1) (by omega) k (by omega)
          obtain ⟨b3, b4⟩ := wy_mul (o := n - 1) (i := k) (by omega) (by omega)
          have hs := wy_succ ((n : Int) - 1) k
          have b5 := (wy_bd (n - 1) (by omega) (k + 1) (by omega)).1
          have b6 := (wy_bd (n - 1) (by omega) (k + 1) (by omega)).2
          rw [show ((n - 1 : Nat) : Int) = (n : Int) - 1 by omega] at b1 b2 b3 b4 b5 b6
          rw [hs] at b5 b6
          have HSW := Lib.hid hs
          clear hs
          generalize tbin (wy ((n : Int) - 1) k) (wy ((n : Int) - 1) ((n - 1) / 2)) = R at *
          generalize wy ((n : Int) - 1) k = WK at *
          generalize wy ((n : Int) - 1) ((n - 1) / 2) = WM at *
          have hbs := Nat.le_trans hg.size (show wr.heap.size ≤ (wr.alloc (.cells #[.float .f32 R] 51)).heap.size by simp)
          go_wp2_with (at_builtin; refine wpList_append_own _ rfl _ _ 22 rfl w.heap.size 51 i0 (.float .f32 0) 1 4 Try.underlying22 hi0 hz0 hz1 hz2 rfl (by decide) _ _ _ rfl (hown.alloc _) ⟨wr.heap.size, 0, none⟩ 1 1 [.float .f32 R] rfl rfl (cell_one_new _ _ _) (flt_one _) (by unfold maxLen; omega) (by omega) hbs ?_; intro v' w4 hown' hgrow _)
          go_roundw
          case rel => exact ⟨k + 1, by omega, by go_num, by rw [HSW.out], by rw [HSN.out]; exact hown', gb_own (hg.trans (World.grownBy_alloc _ _ _)) (hown.alloc _) (Nat.le_refl _) hgrow⟩
          case measure => simp [intOf]; omega
        · obtain rfl : k = n := by omega
          obtain ⟨A', c', rfl⟩ := own_form hown
          go_wp2_with fail
          go_ret2
          exact ⟨_, _, rfl, hown, hg⟩

end Go.Proofs.Ytjmgohlepglkoaa.taper2
