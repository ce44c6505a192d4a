/- Sums of products of two lists, by the program; how near they are. -/
import Derived.Test.YtkjmlpdbnnmlhabRows
import Derived.Test.YtkjmlpdbnnmlhabSlc
import Derived.Test.YtkjmlpdbnnmlhabSmall
import Derived.Test.YtkjmlpdbnnmlhabFloats
import Derived.Test.YtkjmlpdbnnmlhabRound
import Derived.Test.YtkjmlpdbnnmlhabValues
import Derived.Test.YtkjmlpdbnnmlhabConv
import Derived.Test.YtkjmlpdbnnmlhabFWalk
import Derived.Test.YtkjmlpdbnnmlhabFinWalk
import Derived.Test.YtkjmlpdbnnmlhabFloat2
import Derived.Test.YtkjmlpdbnnmlhabFloat3
import Derived.Test.YtkjmlpdbnnmlhabPhase
import Derived.Test.YtkjmlpdbnnmlhabSine
import Derived.Test.YtkjmlpdbnnmlhabPhasor
import Derived.Test.YtkjmlpdbnnmlhabListC
import Derived.Test.YtkjmlpdbnnmlhabSteerNum
import Derived.Test.YtkjmlpdbnnmlhabSineIn
import Derived.Test.YtkjmlpdbnnmlhabPolyNum
import Derived.Test.YtkjmlpdbnnmlhabPolyW
import Derived.Test.YtkjmlpdbnnmlhabPoly1
import Derived.Test.YtkjmlpdbnnmlhabPoly2
import Derived.Test.YtkjmlpdbnnmlhabGPoly
import Derived.Test.YtkjmlpdbnnmlhabGNum
import Derived.Test.YtkjmlpdbnnmlhabRq
import Derived.WalkKit
import Derived.ProofKit
import Derived.OpenShut
import Derived.ShutString
import Derived.ChangeOld
import Derived.Below
import Derived.Lib.Hide
import Derived.BigQuiet
import Derived.Deep.QuietTactic
import Derived.WalkLawsBesides
import Derived.Outline
import Derived.Deep.LoopGhost
import Derived.Laws.ComplexArith
namespace Go.Proofs.Ytkjmlpdbnnmlhab.dotC
open Go.ChangeShapes Go.WideShapes Go.ChangeAt Go.RowKit
open Go.ChangeMaps (open_string shut_string)
set_option linter.unusedVariables false
open Go Ieee Go.RowKit
open Go.Proofs.Ytkjmlpdbnnmlhab.slc Go.Proofs.Ytkjmlpdbnnmlhab.small Go.Proofs.Ytkjmlpdbnnmlhab.floats Go.Proofs.Ytkjmlpdbnnmlhab.round Go.Proofs.Ytkjmlpdbnnmlhab.values Go.Proofs.Ytkjmlpdbnnmlhab.conv Go.Proofs.Ytkjmlpdbnnmlhab.fWalk Go.Proofs.Ytkjmlpdbnnmlhab.float2 Go.Proofs.Ytkjmlpdbnnmlhab.float3 Go.Proofs.Ytkjmlpdbnnmlhab.phase Go.Proofs.Ytkjmlpdbnnmlhab.sine Go.Proofs.Ytkjmlpdbnnmlhab.phasor Go.Proofs.Ytkjmlpdbnnmlhab.listC Go.Proofs.Ytkjmlpdbnnmlhab.steerNum Go.Proofs.Ytkjmlpdbnnmlhab.sineIn Go.Proofs.Ytkjmlpdbnnmlhab.polyNum Go.Proofs.Ytkjmlpdbnnmlhab.polyW Go.Proofs.Ytkjmlpdbnnmlhab.poly2 Go.Proofs.Ytkjmlpdbnnmlhab.gPoly Go.Proofs.Ytkjmlpdbnnmlhab.gNum Go.Proofs.Ytkjmlpdbnnmlhab.rq

theorem cadd {a b c d p q : Nat} (h1 : floatBits .add .f32 a c = some p) (h2 : floatBits .add .f32 b d = some q) (w : World) (t : TypeId) : (binOp .add t (.complex .f32 a b) (.complex .f32 c d)).run Try.prog w = .ok (.complex .f32 p q) w :=
  run_complex_sum w .add (.inl rfl) t .f32 a b c d p q (by simp [cSumBits, h1, h2])
/-- The sum of the first k products. -/
def dsum (a b : List (Nat × Nat)) : Nat → Nat × Nat
  | 0 => (0, 0)
  | k + 1 => addw (dsum a b k) (mulw (a.getD k (0, 0)) (b.getD k (0, 0)))
def DotOk (a b : List (Nat × Nat)) (n : Nat) : Prop := ∀ k, k < n → MulOk (a.getD k (0, 0)) (b.getD k (0, 0)) ∧
  floatBits .add .f32 (dsum a b k).1 (mulw (a.getD k (0, 0)) (b.getD k (0, 0))).1 = some (dsum a b (k + 1)).1 ∧ floatBits .add .f32 (dsum a b k).2 (mulw (a.getD k (0, 0)) (b.getD k (0, 0))).2 = some (dsum a b (k + 1)).2
set_option maxHeartbeats 2000000 in
set_option maxRecDepth 100000 in
theorem dot_impl (A A' : Option Addr) (c c' B n : Nat) (a b : List (Nat × Nat)) (w : World) (ha : a.length = n) (hb : b.length = n) (hn : n ≤ 16) (hok : DotOk a b n) (hr : Rd w B A n (ccell a)) (hr' : Rd w B A' n (ccell b)) (hB : B ≤ w.heap.size) :
    Calls Try.prog 170 #[.slice A n c, .slice A' n c'] w fun e w' => e = .returned (.tuple #[.complex .f32 (dsum a b n).1 (dsum a b n).2, .bool true]) ∧ w.grownBy w' none := by
  have hn' : (n : Int) ≤ 64 := by omega
  have HOK := Lib.hid hok
  clear hok
  go_enter Try.func170, Try.ntmps170
  go_wp2_with fail
  go_loopw [6, 21] (fun s i wr => ∃ k : Nat, k ≤ n ∧ i = .int .i64 k ∧ s = .complex .f32 (dsum a b k).1 (dsum a b k).2 ∧ w.grownBy wr none) (fun _ i _ => n - (intOf i).toNat)
  case atStart => exact ⟨0, Nat.zero_le _, rfl, rfl, World.grownBy.refl _ _⟩
  case round =>
    obtain ⟨k, hk, rfl, rfl, hg⟩ := hrel
    by_cases hlt : k < n
    · obtain ⟨ad, rfl, _, hc⟩ := (hr.kept0 hg hB).at_ hlt
      obtain ⟨ad', rfl, _, hc'⟩ := (hr'.kept0 hg hB).at_ hlt
      unfold ccell at hc hc'
      obtain ⟨m, e1, e2⟩ := HOK.out k hlt
      obtain ⟨S1, hS1⟩ : ∃ s, dsum a b (k + 1) = s := ⟨_, rfl⟩
      rw [hS1] at e1 e2
      have HS1 := Lib.hid hS1
      clear hS1
      have hadd := fun (w : World) => cadd e1 e2 w 71
      have HM := Lib.hid m
      clear m e1 e2
      generalize dsum a b k = S0 at *
      generalize a.getD k (0, 0) = X at *
      generalize b.getD k (0, 0) = Y at *
      have k0 : (0 : Int) ≤ k := by omega
      have k1 : (k : Int) < n := by omega
      have HA := Lib.hid hadd
      clear hadd
      go_wp2_with fail
      refine (mul_impl HM.out _).mono ?_
      rintro e w' ⟨rfl, rfl⟩
      have hadd := HA.out
      generalize mulw X Y = M at *
      go_wp2_with fail
      go_roundw
      case rel => exact ⟨k + 1, by omega, by go_num, by rw [HS1.out], hg⟩
      case measure => simp [intOf]; omega
    · obtain rfl : k = n := by omega
      go_wp2_with fail
      go_ret2
      exact ⟨rfl, hg⟩
theorem dotc_impl (A A' : Option Addr) (c c' B n : Nat) (a b : List (Nat × Nat)) (w : World) (ha : a.length = n) (hb : b.length = n) (hn : n ≤ 16) (hok : DotOk (a.map cj) b n) (hr : Rd w B A n (ccell a)) (hr' : Rd w B A' n (ccell b)) (hB : B ≤ w.heap.size) :
    Calls Try.prog 72 #[.slice A n c, .slice A' n c'] w fun e w' => e = .returned (.tuple #[.complex .f32 (dsum (a.map cj) b n).1 (dsum (a.map cj) b n).2, .bool true]) ∧ w.grownBy w' none := by
  have hcj := conjs_impl A c B a w (by omega) (by rw [ha]; exact hr) hB
  rw [ha] at hcj
  have HC := Lib.hid hcj
  clear hcj
  go_enter Try.func72, Try.ntmps72
  go_wp2_with fail
  refine HC.out.mono ?_
  rintro e w1 ⟨A1, c1, rfl, ho, hg⟩
  have R1 := Rd.of_lst ho (Nat.mul_one _).symm
  have hd := dot_impl A1 A' c1 c' w1.heap.size n (a.map cj) b w1 (by simp [ha]) hb hn hok R1 ((hr'.kept0 hg hB).mono (Nat.le_trans hB hg.size)) (Nat.le_refl _)
  have HD := Lib.hid hd
  clear hd ho R1
  go_wp2_with fail
  refine HD.out.mono ?_
  rintro e w2 ⟨rfl, hg2⟩
  go_wp2_with fail
  go_ret2
  exact ⟨rfl, hg.trans hg2⟩

/-! ## how near -/
theorem bs_of_r {x e : Nat} (h : FinW single x) (hn : nr (r32 x) 0 (two e)) : Bs x e := by
  refine ⟨h, ?_⟩
  have hp := two_pos 149
  unfold nr r32 at hn
  have h1 : (V single x : Rat) ≤ two (149 + e) := by
    have h3 := Rat.mul_le_mul_of_nonneg_right (show (V single x : Rat) / two 149 ≤ two e by grind) (Rat.le_of_lt hp)
    have e1 : (V single x : Rat) / two 149 * two 149 = V single x := by grind
    rw [e1] at h3
    rw [two_add]
    grind
  have h2 : -(V single x : Rat) ≤ two (149 + e) := by
    have h3 := Rat.mul_le_mul_of_nonneg_right (show -((V single x : Rat) / two 149) ≤ two e by grind) (Rat.le_of_lt hp)
    have e1 : -((V single x : Rat) / two 149) * two 149 = -(V single x : Rat) := by grind
    rw [e1] at h3
    rw [two_add]
    grind
  have i1 : V single x ≤ ((2 ^ (149 + e) : Nat) : Int) := by
    unfold two at h1
    exact Rat.intCast_le_intCast.1 h1
  have i2 : -V single x ≤ ((2 ^ (149 + e) : Nat) : Int) := by
    unfold two at h2
    refine Rat.intCast_le_intCast.1 ?_
    rw [Rat.intCast_neg]
    exact h2
  omega
def ssum (T : Nat → Rat) : Nat → Rat
  | 0 => 0
  | k + 1 => ssum T k + T k
theorem ssum_bd {T : Nat → Rat} {n : Nat} (h : ∀ k, k < n → 0 ≤ T k ∧ T k ≤ 11 / 10) : ∀ k, k ≤ n → 0 ≤ ssum T k ∧ ssum T k ≤ (k : Rat) * (11 / 10)
  | 0, _ => by unfold ssum; constructor <;> grind
  | k + 1, hk => by
    obtain ⟨a, b⟩ := ssum_bd h k (by omega)
    obtain ⟨c, d⟩ := h k (by omega)
    have e : ((k + 1 : Nat) : Rat) = (k : Rat) + 1 := by push_cast; rfl
    unfold ssum
    rw [e]
    constructor <;> grind
theorem nat_le {k m : Nat} (h : k ≤ m) : (k : Rat) ≤ (m : Rat) := by exact_mod_cast h
theorem dot_near {a b : List (Nat × Nat)} {T : Nat → Rat} {n : Nat} (hn : n ≤ 16) (hT : ∀ k, k < n → 0 ≤ T k ∧ T k ≤ 11 / 10)
    (hm : ∀ k, k < n → MulOk (a.getD k (0, 0)) (b.getD k (0, 0)) ∧ Cb (mulw (a.getD k (0, 0)) (b.getD k (0, 0))) 5 ∧ nr (r32 (mulw (a.getD k (0, 0)) (b.getD k (0, 0))).1) (T k) (1 / 32768) ∧ nr (r32 (mulw (a.getD k (0, 0)) (b.getD k (0, 0))).2) 0 (1 / 32768)) :
    ∀ k, k ≤ n → Cb (dsum a b k) 5 ∧ nr (r32 (dsum a b k).1) (ssum T k) ((k : Rat) * (1 / 16384)) ∧ nr (r32 (dsum a b k).2) 0 ((k : Rat) * (1 / 16384)) ∧ DotOk a b k
  | 0, _ => by
    have hz : r32 0 = 0 := by unfold r32; rw [show V single 0 = 0 by decide +kernel]; grind
    refine ⟨⟨zero_in 5, zero_in 5⟩, ?_, ?_, fun j h => absurd h (by omega)⟩
    · show nr (r32 0) 0 _
      rw [hz]; unfold nr; constructor <;> grind
    · show nr (r32 0) 0 _
      rw [hz]; unfold nr; constructor <;> grind
  | k + 1, hk => by
    obtain ⟨c, n1, n2, ok⟩ := dot_near hn hT hm k (by omega)
    obtain ⟨m, mc, m1, m2⟩ := hm k (by omega)
    obtain ⟨s0, s1⟩ := ssum_bd hT (k + 1) hk
    have e : ((k + 1 : Nat) : Rat) = (k : Rat) + 1 := by push_cast; rfl
    have hk16 := nat_le (show k + 1 ≤ 16 by omega)
    have hk0 := nat_le (Nat.zero_le k)
    obtain ⟨f1, b1, p1⟩ := add32 c.1 mc.1 (by omega)
    obtain ⟨f2, b2, p2⟩ := add32 c.2 mc.2 (by omega)
    rw [show two (5 + 1) = 64 from rfl, two_num 22 4194304 rfl] at p1 p2
    have q1 : nr (r32 (dsum a b (k + 1)).1) (ssum T (k + 1)) (((k + 1 : Nat) : Rat) * (1 / 16384)) := by
      show nr (r32 (ba32 (dsum a b k).1 (mulw (a.getD k (0, 0)) (b.getD k (0, 0))).1)) (ssum T k + T k) _
      rw [e]
      unfold nr at *
      constructor <;> grind
    have q2 : nr (r32 (dsum a b (k + 1)).2) 0 (((k + 1 : Nat) : Rat) * (1 / 16384)) := by
      show nr (r32 (ba32 (dsum a b k).2 (mulw (a.getD k (0, 0)) (b.getD k (0, 0))).2)) 0 _
      rw [e]
      unfold nr at *
      constructor <;> grind
    rw [e] at s1 hk16
    rw [show ((16 : Nat) : Rat) = 16 from rfl] at hk16
    rw [show ((0 : Nat) : Rat) = 0 from rfl] at hk0
    refine ⟨⟨bs_of_r b1.1 ?_, bs_of_r b2.1 ?_⟩, q1, q2, fun j hj => ?_⟩
    · rw [show two 5 = 32 from rfl]
      show nr (r32 (dsum a b (k + 1)).1) 0 32
      rw [e] at q1
      unfold nr at *
      constructor <;> grind
    · rw [show two 5 = 32 from rfl]
      show nr (r32 (dsum a b (k + 1)).2) 0 32
      rw [e] at q2
      unfold nr at *
      constructor <;> grind
    · by_cases hjk : j < k
      · exact ok j hjk
      · obtain rfl : j = k := by omega
        exact ⟨m, f1, f2⟩

end Go.Proofs.Ytkjmlpdbnnmlhab.dotC
