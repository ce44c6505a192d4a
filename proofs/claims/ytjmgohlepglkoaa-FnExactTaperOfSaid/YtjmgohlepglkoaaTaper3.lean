/- Tapers, by the model and by the program. -/
import Derived.Test.YtjmgohlepglkoaaRows
import Derived.Test.YtjmgohlepglkoaaSlc
import Derived.Test.YtjmgohlepglkoaaSmall
import Derived.Test.YtjmgohlepglkoaaListI
import Derived.Test.YtjmgohlepglkoaaMarks
import Derived.Test.YtjmgohlepglkoaaFloats
import Derived.Test.YtjmgohlepglkoaaRound
import Derived.Test.YtjmgohlepglkoaaValues
import Derived.Test.YtjmgohlepglkoaaConv
import Derived.Test.YtjmgohlepglkoaaFWalk
import Derived.Test.YtjmgohlepglkoaaFinWalk
import Derived.Test.YtjmgohlepglkoaaFloat2
import Derived.Test.YtjmgohlepglkoaaFloat3
import Derived.Test.YtjmgohlepglkoaaPhase
import Derived.Test.YtjmgohlepglkoaaSine
import Derived.Test.YtjmgohlepglkoaaPhasor
import Derived.Test.YtjmgohlepglkoaaListC
import Derived.Test.YtjmgohlepglkoaaSteerNum
import Derived.Test.YtjmgohlepglkoaaRingNum
import Derived.Test.YtjmgohlepglkoaaTaperNum
import Derived.Test.YtjmgohlepglkoaaListF
import Derived.Test.YtjmgohlepglkoaaHeldF
import Derived.Test.YtjmgohlepglkoaaTaper
import Derived.Test.YtjmgohlepglkoaaTaper2
import Derived.WalkKit
import Derived.ProofKit
import Derived.OpenShut
import Derived.ShutString
import Derived.ChangeOld
import Derived.Below
import Derived.Lib.Hide
import Derived.BigQuiet
import Derived.Deep.QuietTactic
import Derived.WalkLawsBesides
import Derived.Outline
import Derived.Deep.QuietTactic
import Derived.BigQuiet
import Derived.Deep.LoopGhost
namespace Go.Proofs.Ytjmgohlepglkoaa.taper3
open Go.ChangeShapes Go.WideShapes Go.ChangeAt Go.RowKit
open Go.ChangeMaps (open_string shut_string)
set_option linter.unusedVariables false
open Go Ieee Go.RowKit
open Go.Proofs.Ytjmgohlepglkoaa.slc Go.Proofs.Ytjmgohlepglkoaa.small Go.Proofs.Ytjmgohlepglkoaa.marks Go.Proofs.Ytjmgohlepglkoaa.floats Go.Proofs.Ytjmgohlepglkoaa.round Go.Proofs.Ytjmgohlepglkoaa.values Go.Proofs.Ytjmgohlepglkoaa.conv Go.Proofs.Ytjmgohlepglkoaa.fWalk Go.Proofs.Ytjmgohlepglkoaa.phase Go.Proofs.Ytjmgohlepglkoaa.sine Go.Proofs.Ytjmgohlepglkoaa.phasor Go.Proofs.Ytjmgohlepglkoaa.ringNum Go.Proofs.Ytjmgohlepglkoaa.taperNum Go.Proofs.Ytjmgohlepglkoaa.listF Go.Proofs.Ytjmgohlepglkoaa.heldF Go.Proofs.Ytjmgohlepglkoaa.taper Go.Proofs.Ytjmgohlepglkoaa.taper2
attribute [local go_sem] cvi6432

theorem run_store_float {P : Program} {w : World} {m : Mode} (a : Addr) (k : FloatKind) (x : Nat) : (store a (.float k x) m).run P w = stored P w a (.float k x) m := run_store P w a _ m rfl
attribute [local go_sem] run_store_float


theorem rule_even (w : World) : Calls Try.prog 55 #[.int .i64 0] w fun e w' => e = .returned (.tuple #[.func (.func 95) #[] #[], .bool true]) ∧ w = w' := by
  go_enter Try.func55, Try.ntmps55
  go_wp2
  go_ret2
  exact ⟨rfl, rfl⟩
set_option maxHeartbeats 1600000 in
set_option maxRecDepth 100000 in
theorem im_even (n : Nat) (h1 : 1 ≤ n) (hn : n ≤ 16) (w : World) :
    Calls Try.prog 14 #[.int .i64 0, .int .i64 n] w fun e w' => ∃ A c, e = .returned (.tuple #[.slice A n c, .bool true]) ∧ w'.ownsRow w.heap.size 51 1 (.slice A n c) n (lst (fl (fun _ : Nat => 1065353216)) n) ∧ w.grownBy w' none := by
  obtain ⟨i0, hi0, hz0, hz1, hz2⟩ := info_parts info32
  have p1 : (1 : Int) ≤ n := by omega
  have p2 : (n : Int) ≤ 16 := by omega
  go_enter Try.func14, Try.ntmps14
  go_wp2_with fail
  refine (rule_even _).mono ?_
  rintro e w' ⟨rfl, rfl⟩
  go_wp2_with fail
  refine (count_yes _ _ p1 p2).mono ?_
  rintro e w' ⟨rfl, rfl⟩
  go_wp2_with (at_make; refine wpList_make_full _ rfl _ _ _ rfl w.heap.size 51 i0 (.float .f32 0) 1 Try.underlying22 hi0 hz0 hz1 _ _ _ _ n rfl rfl rfl rfl (by rw [hz2]; omega) (by unfold maxLen; omega) (Nat.le_refl _) ?_; intro w3 hown3 hg3)
  go_loopw [25] (fun i wr => ∃ j : Nat, j ≤ n ∧ i = .int .i64 j ∧ wr.ownsRow w.heap.size 51 1 (.slice (some ⟨w.heap.size, 0, none⟩) n n) n (lst (mix (fl (fun _ : Nat => 1065353216)) (fun _ => .float .f32 0) j) n) ∧ w.grownBy wr none) (fun i _ => n - (intOf i).toNat)
  case atStart =>
    refine ⟨0, Nat.zero_le _, rfl, ?_, hg3⟩
    rw [mix_zero, ← replicate_lst]
    rw [Nat.mul_one] at hown3
    exact (toList_madeCells_one (.float .f32 0) n) ▸ hown3
  case round =>
    obtain ⟨j, hj, rfl, hown, hg⟩ := hrel
    by_cases hlt : j < n
    · have HC := Lib.hid (fun w => even_c (j : Int) (n : Int) w)
      have hv : fl (fun _ : Nat => 1065353216) j = .float .f32 ((fun _ : Nat => 1065353216) j) := rfl
      generalize hF : (fun _ : Nat => 1065353216) j = R at *
      have HV := Lib.hid hv
      clear hv
      have hj0 : (0 : Int) ≤ j := by omega
      have hj1 : (j : Int) < n := by omega
      go_wp2_with fail
      refine (HC.out _).mono ?_
      rintro e w4 ⟨rfl, hg4⟩
      have g4 := hg.trans hg4
      have hown4 := own_kept0 hown hg4
      have hcell4 := hown4.cellAt j (by omega)
      rw [lst_get _ _ _ hlt] at hcell4
      have hf4 := hown4.frozenAt j
      obtain ⟨hs1, hs2⟩ := hown4.stored j (fl (fun _ : Nat => 1065353216) j)
      rw [mix_set _ _ _ _ hlt] at hs1
      rw [HV.out] at hs1 hs2
      have hs2' := gb_new g4 hs2 (by intro g e; injection e with e; omega)
      have HS4 := Lib.hid hs1
      have HG4 := Lib.hid hs2'
      clear hs1 hs2' hs2 hown4 g4 hg4 hown hg
      go_wp2
      go_roundw
      case rel => exact ⟨j + 1, by omega, by go_num, HS4.out, HG4.out⟩
      case measure => simp [intOf]; omega
    · obtain rfl : j = n := by omega
      go_wp2_with fail
      go_ret2
      exact ⟨_, _, rfl, by rw [← mix_full]; exact hown, hg⟩

theorem rule_tri (w : World) : Calls Try.prog 55 #[.int .i64 1] w fun e w' => e = .returned (.tuple #[.func (.func 96) #[] #[], .bool true]) ∧ w = w' := by
  go_enter Try.func55, Try.ntmps55
  go_wp2
  go_ret2
  exact ⟨rfl, rfl⟩
set_option maxHeartbeats 1600000 in
set_option maxRecDepth 100000 in
theorem im_tri (n : Nat) (h1 : 1 ≤ n) (hn : n ≤ 16) (w : World) :
    Calls Try.prog 14 #[.int .i64 1, .int .i64 n] w fun e w' => ∃ A c, e = .returned (.tuple #[.slice A n c, .bool true]) ∧ w'.ownsRow w.heap.size 51 1 (.slice A n c) n (lst (fl (fun k : Nat => ttri (tm n k) ((n : Int) + 1))) n) ∧ w.grownBy w' none := by
  obtain ⟨i0, hi0, hz0, hz1, hz2⟩ := info_parts info32
  have p1 : (1 : Int) ≤ n := by omega
  have p2 : (n : Int) ≤ 16 := by omega
  go_enter Try.func14, Try.ntmps14
  go_wp2_with fail
  refine (rule_tri _).mono ?_
  rintro e w' ⟨rfl, rfl⟩
  go_wp2_with fail
  refine (count_yes _ _ p1 p2).mono ?_
  rintro e w' ⟨rfl, rfl⟩
  go_wp2_with (at_make; refine wpList_make_full _ rfl _ _ _ rfl w.heap.size 51 i0 (.float .f32 0) 1 Try.underlying22 hi0 hz0 hz1 _ _ _ _ n rfl rfl rfl rfl (by rw [hz2]; omega) (by unfold maxLen; omega) (Nat.le_refl _) ?_; intro w3 hown3 hg3)
  go_loopw [25] (fun i wr => ∃ j : Nat, j ≤ n ∧ i = .int .i64 j ∧ wr.ownsRow w.heap.size 51 1 (.slice (some ⟨w.heap.size, 0, none⟩) n n) n (lst (mix (fl (fun k : Nat => ttri (tm n k) ((n : Int) + 1))) (fun _ => .float .f32 0) j) n) ∧ w.grownBy wr none) (fun i _ => n - (intOf i).toNat)
  case atStart =>
    refine ⟨0, Nat.zero_le _, rfl, ?_, hg3⟩
    rw [mix_zero, ← replicate_lst]
    rw [Nat.mul_one] at hown3
    exact (toList_madeCells_one (.float .f32 0) n) ▸ hown3
  case round =>
    obtain ⟨j, hj, rfl, hown, hg⟩ := hrel
    by_cases hlt : j < n
    · have HC := Lib.hid (fun w => tri_c n j hlt hn w)
      have hv : fl (fun k : Nat => ttri (tm n k) ((n : Int) + 1)) j = .float .f32 ((fun k : Nat => ttri (tm n k) ((n : Int) + 1)) j) := rfl
      generalize hF : (fun k : Nat => ttri (tm n k) ((n : Int) + 1)) j = R at *
      have HV := Lib.hid hv
      clear hv
      have hj0 : (0 : Int) ≤ j := by omega
      have hj1 : (j : Int) < n := by omega
      go_wp2_with fail
      refine (HC.out _).mono ?_
      rintro e w4 ⟨rfl, hg4⟩
      have g4 := hg.trans hg4
      have hown4 := own_kept0 hown hg4
      have hcell4 := hown4.cellAt j (by omega)
      rw [lst_get _ _ _ hlt] at hcell4
      have hf4 := hown4.frozenAt j
      obtain ⟨hs1, hs2⟩ := hown4.stored j (fl (fun k : Nat => ttri (tm n k) ((n : Int) + 1)) j)
      rw [mix_set _ _ _ _ hlt] at hs1
      rw [HV.out] at hs1 hs2
      have hs2' := gb_new g4 hs2 (by intro g e; injection e with e; omega)
      have HS4 := Lib.hid hs1
      have HG4 := Lib.hid hs2'
      clear hs1 hs2' hs2 hown4 g4 hg4 hown hg
      go_wp2
      go_roundw
      case rel => exact ⟨j + 1, by omega, by go_num, HS4.out, HG4.out⟩
      case measure => simp [intOf]; omega
    · obtain rfl : j = n := by omega
      go_wp2_with fail
      go_ret2
      exact ⟨_, _, rfl, by rw [← mix_full]; exact hown, hg⟩

theorem rule_cos (w : World) : Calls Try.prog 55 #[.int .i64 2] w fun e w' => e = .returned (.tuple #[.func (.func 97) #[] #[], .bool true]) ∧ w = w' := by
  go_enter Try.func55, Try.ntmps55
  go_wp2
  go_ret2
  exact ⟨rfl, rfl⟩
set_option maxHeartbeats 1600000 in
set_option maxRecDepth 100000 in
theorem im_cos (n : Nat) (h1 : 1 ≤ n) (hn : n ≤ 16) (w : World) :
    Calls Try.prog 14 #[.int .i64 2, .int .i64 n] w fun e w' => ∃ A c, e = .returned (.tuple #[.slice A n c, .bool true]) ∧ w'.ownsRow w.heap.size 51 1 (.slice A n c) n (lst (fl (fun k : Nat => tcos ((k : Int) + 1) ((n : Int) + 1))) n) ∧ w.grownBy w' none := by
  obtain ⟨i0, hi0, hz0, hz1, hz2⟩ := info_parts info32
  have p1 : (1 : Int) ≤ n := by omega
  have p2 : (n : Int) ≤ 16 := by omega
  go_enter Try.func14, Try.ntmps14
  go_wp2_with fail
  refine (rule_cos _).mono ?_
  rintro e w' ⟨rfl, rfl⟩
  go_wp2_with fail
  refine (count_yes _ _ p1 p2).mono ?_
  rintro e w' ⟨rfl, rfl⟩
  go_wp2_with (at_make; refine wpList_make_full _ rfl _ _ _ rfl w.heap.size 51 i0 (.float .f32 0) 1 Try.underlying22 hi0 hz0 hz1 _ _ _ _ n rfl rfl rfl rfl (by rw [hz2]; omega) (by unfold maxLen; omega) (Nat.le_refl _) ?_; intro w3 hown3 hg3)
  go_loopw [25] (fun i wr => ∃ j : Nat, j ≤ n ∧ i = .int .i64 j ∧ wr.ownsRow w.heap.size 51 1 (.slice (some ⟨w.heap.size, 0, none⟩) n n) n (lst (mix (fl (fun k : Nat => tcos ((k : Int) + 1) ((n : Int) + 1))) (fun _ => .float .f32 0) j) n) ∧ w.grownBy wr none) (fun i _ => n - (intOf i).toNat)
  case atStart =>
    refine ⟨0, Nat.zero_le _, rfl, ?_, hg3⟩
    rw [mix_zero, ← replicate_lst]
    rw [Nat.mul_one] at hown3
    exact (toList_madeCells_one (.float .f32 0) n) ▸ hown3
  case round =>
    obtain ⟨j, hj, rfl, hown, hg⟩ := hrel
    by_cases hlt : j < n
    · have HC := Lib.hid (fun w => cos_c n j hlt hn w)
      have hv : fl (fun k : Nat => tcos ((k : Int) + 1) ((n : Int) + 1)) j = .float .f32 ((fun k : Nat => tcos ((k : Int) + 1) ((n : Int) + 1)) j) := rfl
      generalize hF : (fun k : Nat => tcos ((k : Int) + 1) ((n : Int) + 1)) j = R at *
      have HV := Lib.hid hv
      clear hv
      have hj0 : (0 : Int) ≤ j := by omega
      have hj1 : (j : Int) < n := by omega
      go_wp2_with fail
      refine (HC.out _).mono ?_
      rintro e w4 ⟨rfl, hg4⟩
      have g4 := hg.trans hg4
      have hown4 := own_kept0 hown hg4
      have hcell4 := hown4.cellAt j (by omega)
      rw [lst_get _ _ _ hlt] at hcell4
      have hf4 := hown4.frozenAt j
      obtain ⟨hs1, hs2⟩ := hown4.stored j (fl (fun k : Nat => tcos ((k : Int) + 1) ((n : Int) + 1)) j)
      rw [mix_set _ _ _ _ hlt] at hs1
      rw [HV.out] at hs1 hs2
      have hs2' := gb_new g4 hs2 (by intro g e; injection e with e; omega)
      have HS4 := Lib.hid hs1
      have HG4 := Lib.hid hs2'
      clear hs1 hs2' hs2 hown4 g4 hg4 hown hg
      go_wp2
      go_roundw
      case rel => exact ⟨j + 1, by omega, by go_num, HS4.out, HG4.out⟩
      case measure => simp [intOf]; omega
    · obtain rfl : j = n := by omega
      go_wp2_with fail
      go_ret2
      exact ⟨_, _, rfl, by rw [← mix_full]; exact hown, hg⟩

theorem rule_bin (w : World) : Calls Try.prog 55 #[.int .i64 3] w fun e w' => e = .returned (.tuple #[.func (.func 98) #[] #[], .bool true]) ∧ w = w' := by
  go_enter Try.func55, Try.ntmps55
  go_wp2
  go_ret2
  exact ⟨rfl, rfl⟩
set_option maxHeartbeats 1600000 in
set_option maxRecDepth 100000 in
theorem im_bin (n : Nat) (h1 : 1 ≤ n) (hn : n ≤ 16) (w : World) :
    Calls Try.prog 14 #[.int .i64 3, .int .i64 n] w fun e w' => ∃ A c, e = .returned (.tuple #[.slice A n c, .bool true]) ∧ w'.ownsRow w.heap.size 51 1 (.slice A n c) n (lst (fl (fun k : Nat => tbin (wy ((n : Int) - 1) k) (wy ((n : Int) - 1) ((n - 1) / 2)))) n) ∧ w.grownBy w' none := by
  obtain ⟨i0, hi0, hz0, hz1, hz2⟩ := info_parts info32
  have p1 : (1 : Int) ≤ n := by omega
  have p2 : (n : Int) ≤ 16 := by omega
  go_enter Try.func14, Try.ntmps14
  go_wp2_with fail
  refine (rule_bin _).mono ?_
  rintro e w' ⟨rfl, rfl⟩
  go_wp2_with fail
  refine (count_yes _ _ p1 p2).mono ?_
  rintro e w' ⟨rfl, rfl⟩
  go_wp2_with (at_make; refine wpList_make_full _ rfl _ _ _ rfl w.heap.size 51 i0 (.float .f32 0) 1 Try.underlying22 hi0 hz0 hz1 _ _ _ _ n rfl rfl rfl rfl (by rw [hz2]; omega) (by unfold maxLen; omega) (Nat.le_refl _) ?_; intro w3 hown3 hg3)
  go_loopw [25] (fun i wr => ∃ j : Nat, j ≤ n ∧ i = .int .i64 j ∧ wr.ownsRow w.heap.size 51 1 (.slice (some ⟨w.heap.size, 0, none⟩) n n) n (lst (mix (fl (fun k : Nat => tbin (wy ((n : Int) - 1) k) (wy ((n : Int) - 1) ((n - 1) / 2)))) (fun _ => .float .f32 0) j) n) ∧ w.grownBy wr none) (fun i _ => n - (intOf i).toNat)
  case atStart =>
    refine ⟨0, Nat.zero_le _, rfl, ?_, hg3⟩
    rw [mix_zero, ← replicate_lst]
    rw [Nat.mul_one] at hown3
    exact (toList_madeCells_one (.float .f32 0) n) ▸ hown3
  case round =>
    obtain ⟨j, hj, rfl, hown, hg⟩ := hrel
    by_cases hlt : j < n
    · have HC := Lib.hid (fun w => bin_c n j hlt hn w)
      have hv : fl (fun k : Nat => tbin (wy ((n : Int) - 1) k) (wy ((n : Int) - 1) ((n - 1) / 2))) j = .float .f32 ((fun k : Nat => tbin (wy ((n : Int) - 1) k) (wy ((n : Int) - 1) ((n - 1) / 2))) j) := rfl
      generalize hF : (fun k : Nat => tbin (wy ((n : Int) - 1) k) (wy ((n : Int) - 1) ((n - 1) / 2))) j = R at *
      have HV := Lib.hid hv
      clear hv
      have hj0 : (0 : Int) ≤ j := by omega
      have hj1 : (j : Int) < n := by omega
      go_wp2_with fail
      refine (HC.out _).mono ?_
      rintro e w4 ⟨rfl, hg4⟩
      have g4 := hg.trans hg4
      have hown4 := own_kept0 hown hg4
      have hcell4 := hown4.cellAt j (by omega)
      rw [lst_get _ _ _ hlt] at hcell4
      have hf4 := hown4.frozenAt j
      obtain ⟨hs1, hs2⟩ := hown4.stored j (fl (fun k : Nat => tbin (wy ((n : Int) - 1) k) (wy ((n : Int) - 1) ((n - 1) / 2))) j)
      rw [mix_set _ _ _ _ hlt] at hs1
      rw [HV.out] at hs1 hs2
      have hs2' := gb_new g4 hs2 (by intro g e; injection e with e; omega)
      have HS4 := Lib.hid hs1
      have HG4 := Lib.hid hs2'
      clear hs1 hs2' hs2 hown4 g4 hg4 hown hg
      go_wp2
      go_roundw
      case rel => exact ⟨j + 1, by omega, by go_num, HS4.out, HG4.out⟩
      case measure => simp [intOf]; omega
    · obtain rfl : j = n := by omega
      go_wp2_with fail
      go_ret2
      exact ⟨_, _, rfl, by rw [← mix_full]; exact hown, hg⟩

end Go.Proofs.Ytjmgohlepglkoaa.taper3
