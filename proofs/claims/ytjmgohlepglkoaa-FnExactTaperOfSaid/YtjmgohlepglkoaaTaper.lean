/- The numbers of tapers, by the program. -/
import Derived.Test.YtjmgohlepglkoaaRows
import Derived.Test.YtjmgohlepglkoaaSlc
import Derived.Test.YtjmgohlepglkoaaSmall
import Derived.Test.YtjmgohlepglkoaaListI
import Derived.Test.YtjmgohlepglkoaaMarks
import Derived.Test.YtjmgohlepglkoaaFloats
import Derived.Test.YtjmgohlepglkoaaRound
import Derived.Test.YtjmgohlepglkoaaValues
import Derived.Test.YtjmgohlepglkoaaConv
import Derived.Test.YtjmgohlepglkoaaFWalk
import Derived.Test.YtjmgohlepglkoaaFinWalk
import Derived.Test.YtjmgohlepglkoaaFloat2
import Derived.Test.YtjmgohlepglkoaaFloat3
import Derived.Test.YtjmgohlepglkoaaPhase
import Derived.Test.YtjmgohlepglkoaaSine
import Derived.Test.YtjmgohlepglkoaaPhasor
import Derived.Test.YtjmgohlepglkoaaListC
import Derived.Test.YtjmgohlepglkoaaSteerNum
import Derived.Test.YtjmgohlepglkoaaRingNum
import Derived.Test.YtjmgohlepglkoaaTaperNum
import Derived.Test.YtjmgohlepglkoaaListF
import Derived.Test.YtjmgohlepglkoaaHeldF
import Derived.WalkKit
import Derived.ProofKit
import Derived.OpenShut
import Derived.ShutString
import Derived.ChangeOld
import Derived.Below
import Derived.Lib.Hide
import Derived.BigQuiet
import Derived.Deep.QuietTactic
import Derived.WalkLawsBesides
import Derived.Outline
import Derived.Deep.QuietTactic
import Derived.BigQuiet
import Derived.Deep.LoopGhost
namespace Go.Proofs.Ytjmgohlepglkoaa.taper
open Go.ChangeShapes Go.WideShapes Go.ChangeAt Go.RowKit
open Go.ChangeMaps (open_string shut_string)
set_option linter.unusedVariables false
open Go Ieee Go.RowKit
open Go.Proofs.Ytjmgohlepglkoaa.slc Go.Proofs.Ytjmgohlepglkoaa.small Go.Proofs.Ytjmgohlepglkoaa.marks Go.Proofs.Ytjmgohlepglkoaa.floats Go.Proofs.Ytjmgohlepglkoaa.round Go.Proofs.Ytjmgohlepglkoaa.values Go.Proofs.Ytjmgohlepglkoaa.conv Go.Proofs.Ytjmgohlepglkoaa.fWalk Go.Proofs.Ytjmgohlepglkoaa.phase Go.Proofs.Ytjmgohlepglkoaa.sine Go.Proofs.Ytjmgohlepglkoaa.phasor Go.Proofs.Ytjmgohlepglkoaa.ringNum Go.Proofs.Ytjmgohlepglkoaa.taperNum Go.Proofs.Ytjmgohlepglkoaa.listF Go.Proofs.Ytjmgohlepglkoaa.heldF

theorem run32 {P : Program} {op : BinOp} {x y r : Nat} (h : floatBits op .f32 x y = some r) (ha : arithOp op = true) (w : World) (t : TypeId) : (binOp op t (.float .f32 x) (.float .f32 y)).run P w = .ok (.float .f32 r) w := by
  rw [run_floatop w op t .f32 x y ha]
  have e1 : fval op .f32 w x y = r := by unfold fval; rw [h]
  have e2 : fcnt op .f32 x y = 0 := by unfold fcnt; rw [h]; rfl
  rw [e1, e2]
  rfl
theorem cvi6432 (w : World) (n : Int) : (convert 2 51 (.int .i64 n)).run Try.prog w = .ok (.float .f32 (floatOfInt .f32 n)) w :=
  run_convert_int_float w _ _ .i64 .f32 n (by rw [Try.underlying2]; rfl) Try.underlying51
attribute [local go_sem] cvi6432

theorem even_c (k n : Int) (w : World) :
    Calls Try.prog 95 #[.agg #[.int .i64 k, .int .i64 n]] w fun e w' => e = .returned (.float .f32 1065353216) ∧ w.grownBy w' none := by
  go_enter Try.func95, Try.ntmps95
  go_wp2
  go_ret
  exact ⟨rfl, World.grownBy_alloc _ _ _⟩

/-- The lesser one of k + 1 and n - k. -/
def tm (n k : Nat) : Int := if (n : Int) - k < (k : Int) + 1 then (n : Int) - k else (k : Int) + 1
theorem tm_nat {n k : Nat} (hk : k < n) (hn : n ≤ 16) : ∃ m : Nat, m < 17 ∧ tm n k = (m : Int) := by
  unfold tm
  split
  · exact ⟨n - k, by omega, by omega⟩
  · exact ⟨k + 1, by omega, by omega⟩
theorem tri_eq {n k : Nat} (hk : k < n) (hn : n ≤ 16) : floatBits .mul .f32 1073741824 (floatOfInt .f32 (tm n k)) = some (t2 (tm n k)) ∧ floatBits .quo .f32 (t2 (tm n k)) (floatOfInt .f32 ((n : Int) + 1)) = some (ttri (tm n k) ((n : Int) + 1)) := by
  obtain ⟨m, hm, e⟩ := tm_nat hk hn
  obtain ⟨h1, h2⟩ := tri_d m hm (n + 1) (by omega) (by omega)
  rw [e]
  exact ⟨b32_ok h1, b32_ok h2⟩
theorem cos_eq {n k : Nat} (hk : k < n) (hn : n ≤ 16) : floatBits .quo .f32 (tcr ((k : Int) + 1) ((n : Int) + 1)) 1073741824 = some (tch ((k : Int) + 1) ((n : Int) + 1)) ∧ floatBits .mul .f32 1056964608 (tcr ((k : Int) + 1) ((n : Int) + 1)) = some (tch ((k : Int) + 1) ((n : Int) + 1)) ∧ floatBits .sub .f32 1056964608 (tch ((k : Int) + 1) ((n : Int) + 1)) = some (tcos ((k : Int) + 1) ((n : Int) + 1)) := by
  obtain ⟨h1, h2, h3⟩ := cos_d (n + 1) (by omega) (k + 1) (by omega)
  have a := b32_ok h1
  exact ⟨a, h2.trans a, b32_ok h3⟩
theorem bin_eq {n k : Nat} (hk : k < n) (hn : n ≤ 16) : floatBits .quo .f32 (floatOfInt .f32 (wy ((n : Int) - 1) k)) (floatOfInt .f32 (wy ((n : Int) - 1) ((n - 1) / 2))) = some (tbin (wy ((n : Int) - 1) k) (wy ((n : Int) - 1) ((n - 1) / 2))) := by
  have h := bin_d (n - 1) (by omega) k (by omega)
  rw [show ((n - 1 : Nat) : Int) = (n : Int) - 1 by omega] at h
  exact b32_ok h

set_option maxRecDepth 100000 in
theorem tri_c (n k : Nat) (hk : k < n) (hn : n ≤ 16) (w : World) :
    Calls Try.prog 96 #[.agg #[.int .i64 k, .int .i64 n]] w fun e w' => e = .returned (.float .f32 (ttri (tm n k) ((n : Int) + 1))) ∧ w.grownBy w' none := by
  obtain ⟨h1, h2⟩ := tri_eq hk hn
  have r1 := run32 (P := Try.prog) h1 rfl
  have r2 := run32 (P := Try.prog) h2 rfl
  clear h1 h2
  generalize ttri (tm n k) ((n : Int) + 1) = R at *
  generalize t2 (tm n k) = R2 at *
  unfold tm at r1
  by_cases h : (n : Int) - k < (k : Int) + 1
  · rw [if_pos h] at r1
    go_enter Try.func96, Try.ntmps96
    go_wp2
    go_ret
    exact ⟨rfl, World.grownBy_alloc _ _ _⟩
  · rw [if_neg h] at r1
    go_enter Try.func96, Try.ntmps96
    go_wp2
    go_ret
    exact ⟨rfl, World.grownBy_alloc _ _ _⟩

set_option maxRecDepth 100000 in
theorem cos_c (n k : Nat) (hk : k < n) (hn : n ≤ 16) (w : World) :
    Calls Try.prog 97 #[.agg #[.int .i64 k, .int .i64 n]] w fun e w' => e = .returned (.float .f32 (tcos ((k : Int) + 1) ((n : Int) + 1))) ∧ w.grownBy w' none := by
  obtain ⟨h1, _, h3⟩ := cos_eq hk hn
  have r1 := run32 (P := Try.prog) h1 rfl
  have r3 := run32 (P := Try.prog) h3 rfl
  obtain ⟨k1, k2, k3, k4⟩ := kq_ok ((k : Int) + 1) ((n : Int) + 1) (by omega) (by omega) (by omega)
  have rq := run_ok (P := Try.prog) k1 rfl
  have hp := fun w => phx_impl (kq ((k : Int) + 1) ((n : Int) + 1)) w k4 k2 k3
  have e : (phx (kq ((k : Int) + 1) ((n : Int) + 1))).1 = tcr ((k : Int) + 1) ((n : Int) + 1) := rfl
  rw [e] at hp
  have HP := Lib.hid hp
  clear h1 h3 hp e k1 k2 k3 k4
  generalize tcr ((k : Int) + 1) ((n : Int) + 1) = C at *
  generalize tcos ((k : Int) + 1) ((n : Int) + 1) = R at *
  generalize tch ((k : Int) + 1) ((n : Int) + 1) = R2 at *
  go_enter Try.func97, Try.ntmps97
  go_wp2_with fail
  refine (HP.out _).mono ?_
  rintro e w' ⟨rfl, rfl⟩
  go_wp2_with fail
  go_ret
  exact ⟨rfl, World.grownBy_alloc _ _ _⟩

set_option maxRecDepth 100000 in
theorem ways_c (o k : Nat) (ho : o < 16) (hk : k < 17) (w : World) :
    Calls Try.prog 128 #[.int .i64 k, .int .i64 o] w fun e w' => e = .returned (.int .i64 (wy (o : Int) k)) ∧ w = w' := by
  go_enter Try.func128, Try.ntmps128
  go_wp2
  go_loop [5, 8] (fun v i => ∃ j : Nat, j ≤ k ∧ i = .int .i64 j ∧ v = .int .i64 (wy (o : Int) j)) (fun _ i => k - (intOf i).toNat)
  case atStart => exact ⟨0, Nat.zero_le _, rfl, rfl⟩
  case round =>
    obtain ⟨j, hj, rfl, rfl⟩ := hrel
    by_cases hlt : j < k
    · obtain ⟨b1, b2⟩ := wy_bd o ho j (by omega)
      obtain ⟨b3, b4⟩ := wy_mul (i := j) ho (by omega)
      have hs := wy_succ (o : Int) j
      have b5 := (wy_bd o ho (j + 1) (by omega)).1
      have b6 := (wy_bd o ho (j + 1) (by omega)).2
      rw [hs] at b5 b6
      have HS := Lib.hid hs
      clear hs
      generalize wy (o : Int) j = W at *
      go_wp2
      go_round
      case rel => exact ⟨j + 1, by omega, by go_num, by rw [HS.out]⟩
      case measure => simp [intOf]; omega
    · obtain rfl : j = k := by omega
      go_wp2
      go_ret
      exact ⟨rfl, rfl⟩

set_option maxRecDepth 100000 in
theorem bin_c (n k : Nat) (hk : k < n) (hn : n ≤ 16) (w : World) :
    Calls Try.prog 98 #[.agg #[.int .i64 k, .int .i64 n]] w fun e w' => e = .returned (.float .f32 (tbin (wy ((n : Int) - 1) k) (wy ((n : Int) - 1) ((n - 1) / 2)))) ∧ w.grownBy w' none := by
  have r1 := run32 (P := Try.prog) (bin_eq hk hn) rfl
  have h1 := fun w => ways_c (n - 1) k (by omega) (by omega) w
  have h2 := fun w => ways_c (n - 1) ((n - 1) / 2) (by omega) (by omega) w
  have ht : ((n : Int) - 1) / 2 = ((n - 1) / 2 : Nat) := by omega
  rw [show ((n - 1 : Nat) : Int) = (n : Int) - 1 by omega] at h1 h2
  rw [← ht] at h2
  have H1 := Lib.hid h1
  have H2 := Lib.hid h2
  clear h1 h2 ht
  generalize wy ((n : Int) - 1) k = W1 at *
  generalize wy ((n : Int) - 1) ((n - 1) / 2) = W2 at *
  generalize tbin W1 W2 = R at *
  go_enter Try.func98, Try.ntmps98
  go_wp2_with fail
  refine (H1.out _).mono ?_
  rintro e w' ⟨rfl, rfl⟩
  go_wp2_with fail
  refine (H2.out _).mono ?_
  rintro e w' ⟨rfl, rfl⟩
  go_wp2_with fail
  go_ret
  exact ⟨rfl, World.grownBy_alloc _ _ _⟩

end Go.Proofs.Ytjmgohlepglkoaa.taper
