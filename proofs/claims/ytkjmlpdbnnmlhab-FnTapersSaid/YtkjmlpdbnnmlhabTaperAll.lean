/- The numbers of tapers, by the program. -/
/- Tapers, by the model and by the program. -/
/- Tapers, by the model and by the program. -/
import Derived.Test.YtkjmlpdbnnmlhabRows
import Derived.Test.YtkjmlpdbnnmlhabSlc
import Derived.Test.YtkjmlpdbnnmlhabSmall
import Derived.Test.YtkjmlpdbnnmlhabListI
import Derived.Test.YtkjmlpdbnnmlhabMarks
import Derived.Test.YtkjmlpdbnnmlhabFloats
import Derived.Test.YtkjmlpdbnnmlhabRound
import Derived.Test.YtkjmlpdbnnmlhabValues
import Derived.Test.YtkjmlpdbnnmlhabConv
import Derived.Test.YtkjmlpdbnnmlhabFWalk
import Derived.Test.YtkjmlpdbnnmlhabFinWalk
import Derived.Test.YtkjmlpdbnnmlhabFloat2
import Derived.Test.YtkjmlpdbnnmlhabFloat3
import Derived.Test.YtkjmlpdbnnmlhabPhase
import Derived.Test.YtkjmlpdbnnmlhabSine
import Derived.Test.YtkjmlpdbnnmlhabPhasor
import Derived.Test.YtkjmlpdbnnmlhabListC
import Derived.Test.YtkjmlpdbnnmlhabSteerNum
import Derived.Test.YtkjmlpdbnnmlhabRingNum
import Derived.Test.YtkjmlpdbnnmlhabTaperNum
import Derived.Test.YtkjmlpdbnnmlhabListF
import Derived.Test.YtkjmlpdbnnmlhabHeldF
import Derived.WalkKit
import Derived.ProofKit
import Derived.OpenShut
import Derived.ShutString
import Derived.ChangeOld
import Derived.Below
import Derived.Lib.Hide
import Derived.BigQuiet
import Derived.Deep.QuietTactic
import Derived.WalkLawsBesides
import Derived.Outline
import Derived.Deep.LoopGhost
namespace Go.Proofs.Ytkjmlpdbnnmlhab.taper
open Go.ChangeShapes Go.WideShapes Go.ChangeAt Go.RowKit
open Go.ChangeMaps (open_string shut_string)
set_option linter.unusedVariables false
open Go Ieee Go.RowKit
open Go.Proofs.Ytkjmlpdbnnmlhab.slc Go.Proofs.Ytkjmlpdbnnmlhab.small Go.Proofs.Ytkjmlpdbnnmlhab.marks Go.Proofs.Ytkjmlpdbnnmlhab.floats Go.Proofs.Ytkjmlpdbnnmlhab.round Go.Proofs.Ytkjmlpdbnnmlhab.values Go.Proofs.Ytkjmlpdbnnmlhab.conv Go.Proofs.Ytkjmlpdbnnmlhab.fWalk Go.Proofs.Ytkjmlpdbnnmlhab.phase Go.Proofs.Ytkjmlpdbnnmlhab.sine Go.Proofs.Ytkjmlpdbnnmlhab.phasor Go.Proofs.Ytkjmlpdbnnmlhab.ringNum Go.Proofs.Ytkjmlpdbnnmlhab.taperNum Go.Proofs.Ytkjmlpdbnnmlhab.listF Go.Proofs.Ytkjmlpdbnnmlhab.heldF

theorem run32 {P : Program} {op : BinOp} {x y r : Nat} (h : floatBits op .f32 x y = some r) (ha : arithOp op = true) (w : World) (t : TypeId) : (binOp op t (.float .f32 x) (.float .f32 y)).run P w = .ok (.float .f32 r) w := by
  rw [run_floatop w op t .f32 x y ha]
  have e1 : fval op .f32 w x y = r := by unfold fval; rw [h]
  have e2 : fcnt op .f32 x y = 0 := by unfold fcnt; rw [h]; rfl
  rw [e1, e2]
  rfl
theorem cvi6432 (w : World) (n : Int) : (convert 2 61 (.int .i64 n)).run Try.prog w = .ok (.float .f32 (floatOfInt .f32 n)) w :=
  run_convert_int_float w _ _ .i64 .f32 n (by rw [Try.underlying2]; rfl) Try.underlying61
attribute [local go_sem] cvi6432

theorem even_c (k n : Int) (w : World) :
    Calls Try.prog 254 #[.agg #[.int .i64 k, .int .i64 n]] w fun e w' => e = .returned (.float .f32 1065353216) ∧ w.grownBy w' none := by
  go_enter Try.func254, Try.ntmps254
  go_wp2
  go_ret
  exact ⟨rfl, World.grownBy_alloc _ _ _⟩

/-- The lesser one of k + 1 and n - k. -/
def tm (n k : Nat) : Int := if (n : Int) - k < (k : Int) + 1 then (n : Int) - k else (k : Int) + 1
theorem tm_nat {n k : Nat} (hk : k < n) (hn : n ≤ 16) : ∃ m : Nat, m < 17 ∧ tm n k = (m : Int) := by
  unfold tm
  split
  · exact ⟨n - k, by omega, by omega⟩
  · exact ⟨k + 1, by omega, by omega⟩
theorem tri_eq {n k : Nat} (hk : k < n) (hn : n ≤ 16) : floatBits .mul .f32 1073741824 (floatOfInt .f32 (tm n k)) = some (t2 (tm n k)) ∧ floatBits .quo .f32 (t2 (tm n k)) (floatOfInt .f32 ((n : Int) + 1)) = some (ttri (tm n k) ((n : Int) + 1)) := by
  obtain ⟨m, hm, e⟩ := tm_nat hk hn
  obtain ⟨h1, h2⟩ := tri_d m hm (n + 1) (by omega) (by omega)
  rw [e]
  exact ⟨b32_ok h1, b32_ok h2⟩
theorem cos_eq {n k : Nat} (hk : k < n) (hn : n ≤ 16) : floatBits .quo .f32 (tcr ((k : Int) + 1) ((n : Int) + 1)) 1073741824 = some (tch ((k : Int) + 1) ((n : Int) + 1)) ∧ floatBits .mul .f32 1056964608 (tcr ((k : Int) + 1) ((n : Int) + 1)) = some (tch ((k : Int) + 1) ((n : Int) + 1)) ∧ floatBits .sub .f32 1056964608 (tch ((k : Int) + 1) ((n : Int) + 1)) = some (tcos ((k : Int) + 1) ((n : Int) + 1)) := by
  obtain ⟨h1, h2, h3⟩ := cos_d (n + 1) (by omega) (k + 1) (by omega)
  have a := b32_ok h1
  exact ⟨a, h2.trans a, b32_ok h3⟩
theorem bin_eq {n k : Nat} (hk : k < n) (hn : n ≤ 16) : floatBits .quo .f32 (floatOfInt .f32 (wy ((n : Int) - 1) k)) (floatOfInt .f32 (wy ((n : Int) - 1) ((n - 1) / 2))) = some (tbin (wy ((n : Int) - 1) k) (wy ((n : Int) - 1) ((n - 1) / 2))) := by
  have h := bin_d (n - 1) (by omega) k (by omega)
  rw [show ((n - 1 : Nat) : Int) = (n : Int) - 1 by omega] at h
  exact b32_ok h

set_option maxRecDepth 100000 in
theorem tri_c (n k : Nat) (hk : k < n) (hn : n ≤ 16) (w : World) :
    Calls Try.prog 255 #[.agg #[.int .i64 k, .int .i64 n]] w fun e w' => e = .returned (.float .f32 (ttri (tm n k) ((n : Int) + 1))) ∧ w.grownBy w' none := by
  obtain ⟨h1, h2⟩ := tri_eq hk hn
  have r1 := run32 (P := Try.prog) h1 rfl
  have r2 := run32 (P := Try.prog) h2 rfl
  clear h1 h2
  generalize ttri (tm n k) ((n : Int) + 1) = R at *
  generalize t2 (tm n k) = R2 at *
  unfold tm at r1
  by_cases h : (n : Int) - k < (k : Int) + 1
  · rw [if_pos h] at r1
    go_enter Try.func255, Try.ntmps255
    go_wp2
    go_ret
    exact ⟨rfl, World.grownBy_alloc _ _ _⟩
  · rw [if_neg h] at r1
    go_enter Try.func255, Try.ntmps255
    go_wp2
    go_ret
    exact ⟨rfl, World.grownBy_alloc _ _ _⟩

set_option maxRecDepth 100000 in
theorem cos_c (n k : Nat) (hk : k < n) (hn : n ≤ 16) (w : World) :
    Calls Try.prog 256 #[.agg #[.int .i64 k, .int .i64 n]] w fun e w' => e = .returned (.float .f32 (tcos ((k : Int) + 1) ((n : Int) + 1))) ∧ w.grownBy w' none := by
  obtain ⟨h1, _, h3⟩ := cos_eq hk hn
  have r1 := run32 (P := Try.prog) h1 rfl
  have r3 := run32 (P := Try.prog) h3 rfl
  obtain ⟨k1, k2, k3, k4⟩ := kq_ok ((k : Int) + 1) ((n : Int) + 1) (by omega) (by omega) (by omega)
  have rq := run_ok (P := Try.prog) k1 rfl
  have hp := fun w => phx_impl (kq ((k : Int) + 1) ((n : Int) + 1)) w k4 k2 k3
  have e : (phx (kq ((k : Int) + 1) ((n : Int) + 1))).1 = tcr ((k : Int) + 1) ((n : Int) + 1) := rfl
  rw [e] at hp
  have HP := Lib.hid hp
  clear h1 h3 hp e k1 k2 k3 k4
  generalize tcr ((k : Int) + 1) ((n : Int) + 1) = C at *
  generalize tcos ((k : Int) + 1) ((n : Int) + 1) = R at *
  generalize tch ((k : Int) + 1) ((n : Int) + 1) = R2 at *
  go_enter Try.func256, Try.ntmps256
  go_wp2_with fail
  refine (HP.out _).mono ?_
  rintro e w' ⟨rfl, rfl⟩
  go_wp2_with fail
  go_ret
  exact ⟨rfl, World.grownBy_alloc _ _ _⟩

set_option maxRecDepth 100000 in
theorem ways_c (o k : Nat) (ho : o < 16) (hk : k < 17) (w : World) :
    Calls Try.prog 303 #[.int .i64 k, .int .i64 o] w fun e w' => e = .returned (.int .i64 (wy (o : Int) k)) ∧ w = w' := by
  go_enter Try.func303, Try.ntmps303
  go_wp2
  go_loop [5, 8] (fun v i => ∃ j : Nat, j ≤ k ∧ i = .int .i64 j ∧ v = .int .i64 (wy (o : Int) j)) (fun _ i => k - (intOf i).toNat)
  case atStart => exact ⟨0, Nat.zero_le _, rfl, rfl⟩
  case round =>
    obtain ⟨j, hj, rfl, rfl⟩ := hrel
    by_cases hlt : j < k
    · obtain ⟨b1, b2⟩ := wy_bd o ho j (by omega)
      obtain ⟨b3, b4⟩ := wy_mul (i := j) ho (by omega)
      have hs := wy_succ (o : Int) j
      have b5 := (wy_bd o ho (j + 1) (by omega)).1
      have b6 := (wy_bd o ho (j + 1) (by omega)).2
      rw [hs] at b5 b6
      have HS := Lib.hid hs
      clear hs
      generalize wy (o : Int) j = W at *
      go_wp2
      go_round
      case rel => exact ⟨j + 1, by omega, by go_num, by rw [HS.out]⟩
      case measure => simp [intOf]; omega
    · obtain rfl : j = k := by omega
      go_wp2
      go_ret
      exact ⟨rfl, rfl⟩

set_option maxRecDepth 100000 in
theorem bin_c (n k : Nat) (hk : k < n) (hn : n ≤ 16) (w : World) :
    Calls Try.prog 257 #[.agg #[.int .i64 k, .int .i64 n]] w fun e w' => e = .returned (.float .f32 (tbin (wy ((n : Int) - 1) k) (wy ((n : Int) - 1) ((n - 1) / 2)))) ∧ w.grownBy w' none := by
  have r1 := run32 (P := Try.prog) (bin_eq hk hn) rfl
  have h1 := fun w => ways_c (n - 1) k (by omega) (by omega) w
  have h2 := fun w => ways_c (n - 1) ((n - 1) / 2) (by omega) (by omega) w
  have ht : ((n : Int) - 1) / 2 = ((n - 1) / 2 : Nat) := by omega
  rw [show ((n - 1 : Nat) : Int) = (n : Int) - 1 by omega] at h1 h2
  rw [← ht] at h2
  have H1 := Lib.hid h1
  have H2 := Lib.hid h2
  clear h1 h2 ht
  generalize wy ((n : Int) - 1) k = W1 at *
  generalize wy ((n : Int) - 1) ((n - 1) / 2) = W2 at *
  generalize tbin W1 W2 = R at *
  go_enter Try.func257, Try.ntmps257
  go_wp2_with fail
  refine (H1.out _).mono ?_
  rintro e w' ⟨rfl, rfl⟩
  go_wp2_with fail
  refine (H2.out _).mono ?_
  rintro e w' ⟨rfl, rfl⟩
  go_wp2_with fail
  go_ret
  exact ⟨rfl, World.grownBy_alloc _ _ _⟩

end Go.Proofs.Ytkjmlpdbnnmlhab.taper

namespace Go.Proofs.Ytkjmlpdbnnmlhab.taper2
open Go.ChangeShapes Go.WideShapes Go.ChangeAt Go.RowKit
open Go.ChangeMaps (open_string shut_string)
set_option linter.unusedVariables false
open Go Ieee Go.RowKit
open Go.Proofs.Ytkjmlpdbnnmlhab.slc Go.Proofs.Ytkjmlpdbnnmlhab.small Go.Proofs.Ytkjmlpdbnnmlhab.marks Go.Proofs.Ytkjmlpdbnnmlhab.floats Go.Proofs.Ytkjmlpdbnnmlhab.round Go.Proofs.Ytkjmlpdbnnmlhab.values Go.Proofs.Ytkjmlpdbnnmlhab.conv Go.Proofs.Ytkjmlpdbnnmlhab.fWalk Go.Proofs.Ytkjmlpdbnnmlhab.phase Go.Proofs.Ytkjmlpdbnnmlhab.sine Go.Proofs.Ytkjmlpdbnnmlhab.phasor Go.Proofs.Ytkjmlpdbnnmlhab.ringNum Go.Proofs.Ytkjmlpdbnnmlhab.taperNum Go.Proofs.Ytkjmlpdbnnmlhab.listF Go.Proofs.Ytkjmlpdbnnmlhab.heldF Go.Proofs.Ytkjmlpdbnnmlhab.taper
attribute [local go_sem] cvi6432

theorem fl_snoc (x : Nat → Nat) (k : Nat) : lst (fl x) (k + 1) = lst (fl x) k ++ [.float .f32 (x k)] := by simp [lst, List.range_succ, fl]
theorem flt_one (x : Nat) : ∀ u ∈ [Value.float .f32 x], u.oneCell' = true := by
  intro u hu
  have : u = .float .f32 x := by simpa using hu
  subst this
  rfl
theorem min_spec : True := trivial
theorem max_spec : True := trivial






end Go.Proofs.Ytkjmlpdbnnmlhab.taper2

namespace Go.Proofs.Ytkjmlpdbnnmlhab.taper3
open Go.ChangeShapes Go.WideShapes Go.ChangeAt Go.RowKit
open Go.ChangeMaps (open_string shut_string)
set_option linter.unusedVariables false
open Go Ieee Go.RowKit
open Go.Proofs.Ytkjmlpdbnnmlhab.slc Go.Proofs.Ytkjmlpdbnnmlhab.small Go.Proofs.Ytkjmlpdbnnmlhab.marks Go.Proofs.Ytkjmlpdbnnmlhab.floats Go.Proofs.Ytkjmlpdbnnmlhab.round Go.Proofs.Ytkjmlpdbnnmlhab.values Go.Proofs.Ytkjmlpdbnnmlhab.conv Go.Proofs.Ytkjmlpdbnnmlhab.fWalk Go.Proofs.Ytkjmlpdbnnmlhab.phase Go.Proofs.Ytkjmlpdbnnmlhab.sine Go.Proofs.Ytkjmlpdbnnmlhab.phasor Go.Proofs.Ytkjmlpdbnnmlhab.ringNum Go.Proofs.Ytkjmlpdbnnmlhab.taperNum Go.Proofs.Ytkjmlpdbnnmlhab.listF Go.Proofs.Ytkjmlpdbnnmlhab.heldF Go.Proofs.Ytkjmlpdbnnmlhab.taper Go.Proofs.Ytkjmlpdbnnmlhab.taper2
attribute [local go_sem] cvi6432

theorem run_store_float {P : Program} {w : World} {m : Mode} (a : Addr) (k : FloatKind) (x : Nat) : (store a (.float k x) m).run P w = stored P w a (.float k x) m := run_store P w a _ m rfl
attribute [local go_sem] run_store_float


theorem rule_even (w : World) : Calls Try.prog 181 #[.int .i64 0] w fun e w' => e = .returned (.tuple #[.func (.func 254) #[] #[], .bool true]) ∧ w = w' := by
  go_enter Try.func181, Try.ntmps181
  go_wp2
  go_ret2
  exact ⟨rfl, rfl⟩
set_option maxHeartbeats 1600000 in
set_option maxRecDepth 100000 in
theorem im_even (n : Nat) (h1 : 1 ≤ n) (hn : n ≤ 16) (w : World) :
    Calls Try.prog 70 #[.int .i64 0, .int .i64 n] w fun e w' => ∃ A c, e = .returned (.tuple #[.slice A n c, .bool true]) ∧ w'.ownsRow w.heap.size 61 1 (.slice A n c) n (lst (fl (fun _ : Nat => 1065353216)) n) ∧ w.grownBy w' none := by
  obtain ⟨i0, hi0, hz0, hz1, hz2⟩ := info_parts info32
  have p1 : (1 : Int) ≤ n := by omega
  have p2 : (n : Int) ≤ 16 := by omega
  go_enter Try.func70, Try.ntmps70
  go_wp2_with fail
  refine (rule_even _).mono ?_
  rintro e w' ⟨rfl, rfl⟩
  go_wp2_with fail
  refine (count_yes _ _ p1 p2).mono ?_
  rintro e w' ⟨rfl, rfl⟩
  go_wp2_with (at_make; refine wpList_make_full _ rfl _ _ _ rfl w.heap.size 61 i0 (.float .f32 0) 1 Try.underlying58 hi0 hz0 hz1 _ _ _ _ n rfl rfl rfl rfl (by rw [hz2]; omega) (by unfold maxLen; omega) (Nat.le_refl _) ?_; intro w3 hown3 hg3)
  go_loopw [25] (fun i wr => ∃ j : Nat, j ≤ n ∧ i = .int .i64 j ∧ wr.ownsRow w.heap.size 61 1 (.slice (some ⟨w.heap.size, 0, none⟩) n n) n (lst (mix (fl (fun _ : Nat => 1065353216)) (fun _ => .float .f32 0) j) n) ∧ w.grownBy wr none) (fun i _ => n - (intOf i).toNat)
  case atStart =>
    refine ⟨0, Nat.zero_le _, rfl, ?_, hg3⟩
    rw [mix_zero, ← replicate_lst]
    rw [Nat.mul_one] at hown3
    exact (toList_madeCells_one (.float .f32 0) n) ▸ hown3
  case round =>
    obtain ⟨j, hj, rfl, hown, hg⟩ := hrel
    by_cases hlt : j < n
    · have HC := Lib.hid (fun w => even_c (j : Int) (n : Int) w)
      have hv : fl (fun _ : Nat => 1065353216) j = .float .f32 ((fun _ : Nat => 1065353216) j) := rfl
      generalize hF : (fun _ : Nat => 1065353216) j = R at *
      have HV := Lib.hid hv
      clear hv
      have hj0 : (0 : Int) ≤ j := by omega
      have hj1 : (j : Int) < n := by omega
      go_wp2_with fail
      refine (HC.out _).mono ?_
      rintro e w4 ⟨rfl, hg4⟩
      have g4 := hg.trans hg4
      have hown4 := own_kept0 hown hg4
      have hcell4 := hown4.cellAt j (by omega)
      rw [lst_get _ _ _ hlt] at hcell4
      have hf4 := hown4.frozenAt j
      obtain ⟨hs1, hs2⟩ := hown4.stored j (fl (fun _ : Nat => 1065353216) j)
      rw [mix_set _ _ _ _ hlt] at hs1
      rw [HV.out] at hs1 hs2
      have hs2' := gb_new g4 hs2 (by intro g e; injection e with e; omega)
      have HS4 := Lib.hid hs1
      have HG4 := Lib.hid hs2'
      clear hs1 hs2' hs2 hown4 g4 hg4 hown hg
      go_wp2
      go_roundw
      case rel => exact ⟨j + 1, by omega, by go_num, HS4.out, HG4.out⟩
      case measure => simp [intOf]; omega
    · obtain rfl : j = n := by omega
      go_wp2_with fail
      go_ret2
      exact ⟨_, _, rfl, by rw [← mix_full]; exact hown, hg⟩

theorem rule_tri (w : World) : Calls Try.prog 181 #[.int .i64 1] w fun e w' => e = .returned (.tuple #[.func (.func 255) #[] #[], .bool true]) ∧ w = w' := by
  go_enter Try.func181, Try.ntmps181
  go_wp2
  go_ret2
  exact ⟨rfl, rfl⟩
set_option maxHeartbeats 1600000 in
set_option maxRecDepth 100000 in
theorem im_tri (n : Nat) (h1 : 1 ≤ n) (hn : n ≤ 16) (w : World) :
    Calls Try.prog 70 #[.int .i64 1, .int .i64 n] w fun e w' => ∃ A c, e = .returned (.tuple #[.slice A n c, .bool true]) ∧ w'.ownsRow w.heap.size 61 1 (.slice A n c) n (lst (fl (fun k : Nat => ttri (tm n k) ((n : Int) + 1))) n) ∧ w.grownBy w' none := by
  obtain ⟨i0, hi0, hz0, hz1, hz2⟩ := info_parts info32
  have p1 : (1 : Int) ≤ n := by omega
  have p2 : (n : Int) ≤ 16 := by omega
  go_enter Try.func70, Try.ntmps70
  go_wp2_with fail
  refine (rule_tri _).mono ?_
  rintro e w' ⟨rfl, rfl⟩
  go_wp2_with fail
  refine (count_yes _ _ p1 p2).mono ?_
  rintro e w' ⟨rfl, rfl⟩
  go_wp2_with (at_make; refine wpList_make_full _ rfl _ _ _ rfl w.heap.size 61 i0 (.float .f32 0) 1 Try.underlying58 hi0 hz0 hz1 _ _ _ _ n rfl rfl rfl rfl (by rw [hz2]; omega) (by unfold maxLen; omega) (Nat.le_refl _) ?_; intro w3 hown3 hg3)
  go_loopw [25] (fun i wr => ∃ j : Nat, j ≤ n ∧ i = .int .i64 j ∧ wr.ownsRow w.heap.size 61 1 (.slice (some ⟨w.heap.size, 0, none⟩) n n) n (lst (mix (fl (fun k : Nat => ttri (tm n k) ((n : Int) + 1))) (fun _ => .float .f32 0) j) n) ∧ w.grownBy wr none) (fun i _ => n - (intOf i).toNat)
  case atStart =>
    refine ⟨0, Nat.zero_le _, rfl, ?_, hg3⟩
    rw [mix_zero, ← replicate_lst]
    rw [Nat.mul_one] at hown3
    exact (toList_madeCells_one (.float .f32 0) n) ▸ hown3
  case round =>
    obtain ⟨j, hj, rfl, hown, hg⟩ := hrel
    by_cases hlt : j < n
    · have HC := Lib.hid (fun w => tri_c n j hlt hn w)
      have hv : fl (fun k : Nat => ttri (tm n k) ((n : Int) + 1)) j = .float .f32 ((fun k : Nat => ttri (tm n k) ((n : Int) + 1)) j) := rfl
      generalize hF : (fun k : Nat => ttri (tm n k) ((n : Int) + 1)) j = R at *
      have HV := Lib.hid hv
      clear hv
      have hj0 : (0 : Int) ≤ j := by omega
      have hj1 : (j : Int) < n := by omega
      go_wp2_with fail
      refine (HC.out _).mono ?_
      rintro e w4 ⟨rfl, hg4⟩
      have g4 := hg.trans hg4
      have hown4 := own_kept0 hown hg4
      have hcell4 := hown4.cellAt j (by omega)
      rw [lst_get _ _ _ hlt] at hcell4
      have hf4 := hown4.frozenAt j
      obtain ⟨hs1, hs2⟩ := hown4.stored j (fl (fun k : Nat => ttri (tm n k) ((n : Int) + 1)) j)
      rw [mix_set _ _ _ _ hlt] at hs1
      rw [HV.out] at hs1 hs2
      have hs2' := gb_new g4 hs2 (by intro g e; injection e with e; omega)
      have HS4 := Lib.hid hs1
      have HG4 := Lib.hid hs2'
      clear hs1 hs2' hs2 hown4 g4 hg4 hown hg
      go_wp2
      go_roundw
      case rel => exact ⟨j + 1, by omega, by go_num, HS4.out, HG4.out⟩
      case measure => simp [intOf]; omega
    · obtain rfl : j = n := by omega
      go_wp2_with fail
      go_ret2
      exact ⟨_, _, rfl, by rw [← mix_full]; exact hown, hg⟩

theorem rule_cos (w : World) : Calls Try.prog 181 #[.int .i64 2] w fun e w' => e = .returned (.tuple #[.func (.func 256) #[] #[], .bool true]) ∧ w = w' := by
  go_enter Try.func181, Try.ntmps181
  go_wp2
  go_ret2
  exact ⟨rfl, rfl⟩
set_option maxHeartbeats 1600000 in
set_option maxRecDepth 100000 in
theorem im_cos (n : Nat) (h1 : 1 ≤ n) (hn : n ≤ 16) (w : World) :
    Calls Try.prog 70 #[.int .i64 2, .int .i64 n] w fun e w' => ∃ A c, e = .returned (.tuple #[.slice A n c, .bool true]) ∧ w'.ownsRow w.heap.size 61 1 (.slice A n c) n (lst (fl (fun k : Nat => tcos ((k : Int) + 1) ((n : Int) + 1))) n) ∧ w.grownBy w' none := by
  obtain ⟨i0, hi0, hz0, hz1, hz2⟩ := info_parts info32
  have p1 : (1 : Int) ≤ n := by omega
  have p2 : (n : Int) ≤ 16 := by omega
  go_enter Try.func70, Try.ntmps70
  go_wp2_with fail
  refine (rule_cos _).mono ?_
  rintro e w' ⟨rfl, rfl⟩
  go_wp2_with fail
  refine (count_yes _ _ p1 p2).mono ?_
  rintro e w' ⟨rfl, rfl⟩
  go_wp2_with (at_make; refine wpList_make_full _ rfl _ _ _ rfl w.heap.size 61 i0 (.float .f32 0) 1 Try.underlying58 hi0 hz0 hz1 _ _ _ _ n rfl rfl rfl rfl (by rw [hz2]; omega) (by unfold maxLen; omega) (Nat.le_refl _) ?_; intro w3 hown3 hg3)
  go_loopw [25] (fun i wr => ∃ j : Nat, j ≤ n ∧ i = .int .i64 j ∧ wr.ownsRow w.heap.size 61 1 (.slice (some ⟨w.heap.size, 0, none⟩) n n) n (lst (mix (fl (fun k : Nat => tcos ((k : Int) + 1) ((n : Int) + 1))) (fun _ => .float .f32 0) j) n) ∧ w.grownBy wr none) (fun i _ => n - (intOf i).toNat)
  case atStart =>
    refine ⟨0, Nat.zero_le _, rfl, ?_, hg3⟩
    rw [mix_zero, ← replicate_lst]
    rw [Nat.mul_one] at hown3
    exact (toList_madeCells_one (.float .f32 0) n) ▸ hown3
  case round =>
    obtain ⟨j, hj, rfl, hown, hg⟩ := hrel
    by_cases hlt : j < n
    · have HC := Lib.hid (fun w => cos_c n j hlt hn w)
      have hv : fl (fun k : Nat => tcos ((k : Int) + 1) ((n : Int) + 1)) j = .float .f32 ((fun k : Nat => tcos ((k : Int) + 1) ((n : Int) + 1)) j) := rfl
      generalize hF : (fun k : Nat => tcos ((k : Int) + 1) ((n : Int) + 1)) j = R at *
      have HV := Lib.hid hv
      clear hv
      have hj0 : (0 : Int) ≤ j := by omega
      have hj1 : (j : Int) < n := by omega
      go_wp2_with fail
      refine (HC.out _).mono ?_
      rintro e w4 ⟨rfl, hg4⟩
      have g4 := hg.trans hg4
      have hown4 := own_kept0 hown hg4
      have hcell4 := hown4.cellAt j (by omega)
      rw [lst_get _ _ _ hlt] at hcell4
      have hf4 := hown4.frozenAt j
      obtain ⟨hs1, hs2⟩ := hown4.stored j (fl (fun k : Nat => tcos ((k : Int) + 1) ((n : Int) + 1)) j)
      rw [mix_set _ _ _ _ hlt] at hs1
      rw [HV.out] at hs1 hs2
      have hs2' := gb_new g4 hs2 (by intro g e; injection e with e; omega)
      have HS4 := Lib.hid hs1
      have HG4 := Lib.hid hs2'
      clear hs1 hs2' hs2 hown4 g4 hg4 hown hg
      go_wp2
      go_roundw
      case rel => exact ⟨j + 1, by omega, by go_num, HS4.out, HG4.out⟩
      case measure => simp [intOf]; omega
    · obtain rfl : j = n := by omega
      go_wp2_with fail
      go_ret2
      exact ⟨_, _, rfl, by rw [← mix_full]; exact hown, hg⟩

theorem rule_bin (w : World) : Calls Try.prog 181 #[.int .i64 3] w fun e w' => e = .returned (.tuple #[.func (.func 257) #[] #[], .bool true]) ∧ w = w' := by
  go_enter Try.func181, Try.ntmps181
  go_wp2
  go_ret2
  exact ⟨rfl, rfl⟩
set_option maxHeartbeats 1600000 in
set_option maxRecDepth 100000 in
theorem im_bin (n : Nat) (h1 : 1 ≤ n) (hn : n ≤ 16) (w : World) :
    Calls Try.prog 70 #[.int .i64 3, .int .i64 n] w fun e w' => ∃ A c, e = .returned (.tuple #[.slice A n c, .bool true]) ∧ w'.ownsRow w.heap.size 61 1 (.slice A n c) n (lst (fl (fun k : Nat => tbin (wy ((n : Int) - 1) k) (wy ((n : Int) - 1) ((n - 1) / 2)))) n) ∧ w.grownBy w' none := by
  obtain ⟨i0, hi0, hz0, hz1, hz2⟩ := info_parts info32
  have p1 : (1 : Int) ≤ n := by omega
  have p2 : (n : Int) ≤ 16 := by omega
  go_enter Try.func70, Try.ntmps70
  go_wp2_with fail
  refine (rule_bin _).mono ?_
  rintro e w' ⟨rfl, rfl⟩
  go_wp2_with fail
  refine (count_yes _ _ p1 p2).mono ?_
  rintro e w' ⟨rfl, rfl⟩
  go_wp2_with (at_make; refine wpList_make_full _ rfl _ _ _ rfl w.heap.size 61 i0 (.float .f32 0) 1 Try.underlying58 hi0 hz0 hz1 _ _ _ _ n rfl rfl rfl rfl (by rw [hz2]; omega) (by unfold maxLen; omega) (Nat.le_refl _) ?_; intro w3 hown3 hg3)
  go_loopw [25] (fun i wr => ∃ j : Nat, j ≤ n ∧ i = .int .i64 j ∧ wr.ownsRow w.heap.size 61 1 (.slice (some ⟨w.heap.size, 0, none⟩) n n) n (lst (mix (fl (fun k : Nat => tbin (wy ((n : Int) - 1) k) (wy ((n : Int) - 1) ((n - 1) / 2)))) (fun _ => .float .f32 0) j) n) ∧ w.grownBy wr none) (fun i _ => n - (intOf i).toNat)
  case atStart =>
    refine ⟨0, Nat.zero_le _, rfl, ?_, hg3⟩
    rw [mix_zero, ← replicate_lst]
    rw [Nat.mul_one] at hown3
    exact (toList_madeCells_one (.float .f32 0) n) ▸ hown3
  case round =>
    obtain ⟨j, hj, rfl, hown, hg⟩ := hrel
    by_cases hlt : j < n
    · have HC := Lib.hid (fun w => bin_c n j hlt hn w)
      have hv : fl (fun k : Nat => tbin (wy ((n : Int) - 1) k) (wy ((n : Int) - 1) ((n - 1) / 2))) j = .float .f32 ((fun k : Nat => tbin (wy ((n : Int) - 1) k) (wy ((n : Int) - 1) ((n - 1) / 2))) j) := rfl
      generalize hF : (fun k : Nat => tbin (wy ((n : Int) - 1) k) (wy ((n : Int) - 1) ((n - 1) / 2))) j = R at *
      have HV := Lib.hid hv
      clear hv
      have hj0 : (0 : Int) ≤ j := by omega
      have hj1 : (j : Int) < n := by omega
      go_wp2_with fail
      refine (HC.out _).mono ?_
      rintro e w4 ⟨rfl, hg4⟩
      have g4 := hg.trans hg4
      have hown4 := own_kept0 hown hg4
      have hcell4 := hown4.cellAt j (by omega)
      rw [lst_get _ _ _ hlt] at hcell4
      have hf4 := hown4.frozenAt j
      obtain ⟨hs1, hs2⟩ := hown4.stored j (fl (fun k : Nat => tbin (wy ((n : Int) - 1) k) (wy ((n : Int) - 1) ((n - 1) / 2))) j)
      rw [mix_set _ _ _ _ hlt] at hs1
      rw [HV.out] at hs1 hs2
      have hs2' := gb_new g4 hs2 (by intro g e; injection e with e; omega)
      have HS4 := Lib.hid hs1
      have HG4 := Lib.hid hs2'
      clear hs1 hs2' hs2 hown4 g4 hg4 hown hg
      go_wp2
      go_roundw
      case rel => exact ⟨j + 1, by omega, by go_num, HS4.out, HG4.out⟩
      case measure => simp [intOf]; omega
    · obtain rfl : j = n := by omega
      go_wp2_with fail
      go_ret2
      exact ⟨_, _, rfl, by rw [← mix_full]; exact hown, hg⟩

end Go.Proofs.Ytkjmlpdbnnmlhab.taper3
