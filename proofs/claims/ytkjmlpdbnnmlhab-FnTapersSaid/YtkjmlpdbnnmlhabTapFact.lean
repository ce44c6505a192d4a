/- What the law asks of tapers. -/
import Derived.Test.YtkjmlpdbnnmlhabRows
import Derived.Test.YtkjmlpdbnnmlhabSlc
import Derived.Test.YtkjmlpdbnnmlhabSmall
import Derived.Test.YtkjmlpdbnnmlhabListI
import Derived.Test.YtkjmlpdbnnmlhabMarks
import Derived.Test.YtkjmlpdbnnmlhabOpens
import Derived.Test.YtkjmlpdbnnmlhabFloats
import Derived.Test.YtkjmlpdbnnmlhabRound
import Derived.Test.YtkjmlpdbnnmlhabValues
import Derived.Test.YtkjmlpdbnnmlhabConv
import Derived.Test.YtkjmlpdbnnmlhabFWalk
import Derived.Test.YtkjmlpdbnnmlhabFinWalk
import Derived.Test.YtkjmlpdbnnmlhabRoot
import Derived.Test.YtkjmlpdbnnmlhabFloat2
import Derived.Test.YtkjmlpdbnnmlhabFloat3
import Derived.Test.YtkjmlpdbnnmlhabPhase
import Derived.Test.YtkjmlpdbnnmlhabSine
import Derived.Test.YtkjmlpdbnnmlhabPhasor
import Derived.Test.YtkjmlpdbnnmlhabListC
import Derived.Test.YtkjmlpdbnnmlhabSteerNum
import Derived.Test.YtkjmlpdbnnmlhabRingNum
import Derived.Test.YtkjmlpdbnnmlhabTaperNum
import Derived.Test.YtkjmlpdbnnmlhabTapTab
import Derived.Test.YtkjmlpdbnnmlhabListF
import Derived.Test.YtkjmlpdbnnmlhabHeldF
import Derived.Test.YtkjmlpdbnnmlhabTaperAll
import Derived.Test.YtkjmlpdbnnmlhabSineIn
import Derived.Test.YtkjmlpdbnnmlhabPolyNum
import Derived.Test.YtkjmlpdbnnmlhabPolyW
import Derived.Test.YtkjmlpdbnnmlhabPoly1
import Derived.Test.YtkjmlpdbnnmlhabPoly2
import Derived.Test.YtkjmlpdbnnmlhabGPoly
import Derived.Test.YtkjmlpdbnnmlhabGNum
import Derived.Test.YtkjmlpdbnnmlhabRq
import Derived.Test.YtkjmlpdbnnmlhabPowW
import Derived.Test.YtkjmlpdbnnmlhabTwinNum
import Derived.Test.YtkjmlpdbnnmlhabPhDef
import Derived.Test.YtkjmlpdbnnmlhabPhTabA
import Derived.Test.YtkjmlpdbnnmlhabPhTabB
import Derived.Test.YtkjmlpdbnnmlhabPhTabC
import Derived.Test.YtkjmlpdbnnmlhabPhTabD
import Derived.Test.YtkjmlpdbnnmlhabPhAll
import Derived.Test.YtkjmlpdbnnmlhabPhMath
import Derived.Test.YtkjmlpdbnnmlhabDotC
import Derived.Test.YtkjmlpdbnnmlhabGapAll
import Derived.Test.YtkjmlpdbnnmlhabTapR
import Derived.WalkKit
import Derived.ProofKit
import Derived.OpenShut
import Derived.ShutString
import Derived.ChangeOld
import Derived.Below
import Derived.Lib.Hide
import Derived.BigQuiet
import Derived.Deep.QuietTactic
import Derived.WalkLawsBesides
import Derived.Outline
namespace Go.Proofs.Ytkjmlpdbnnmlhab.tapFact
open Go.ChangeShapes Go.WideShapes Go.ChangeAt Go.RowKit
open Go.ChangeMaps (open_string shut_string)
set_option linter.unusedVariables false
open Go Ieee Go.RowKit
open Go.Proofs.Ytkjmlpdbnnmlhab.slc Go.Proofs.Ytkjmlpdbnnmlhab.floats Go.Proofs.Ytkjmlpdbnnmlhab.round Go.Proofs.Ytkjmlpdbnnmlhab.values Go.Proofs.Ytkjmlpdbnnmlhab.conv Go.Proofs.Ytkjmlpdbnnmlhab.fWalk Go.Proofs.Ytkjmlpdbnnmlhab.float2 Go.Proofs.Ytkjmlpdbnnmlhab.float3 Go.Proofs.Ytkjmlpdbnnmlhab.phase Go.Proofs.Ytkjmlpdbnnmlhab.sine Go.Proofs.Ytkjmlpdbnnmlhab.phasor Go.Proofs.Ytkjmlpdbnnmlhab.listC Go.Proofs.Ytkjmlpdbnnmlhab.steerNum Go.Proofs.Ytkjmlpdbnnmlhab.taperNum Go.Proofs.Ytkjmlpdbnnmlhab.tapTab Go.Proofs.Ytkjmlpdbnnmlhab.listF Go.Proofs.Ytkjmlpdbnnmlhab.taper Go.Proofs.Ytkjmlpdbnnmlhab.taper3 Go.Proofs.Ytkjmlpdbnnmlhab.sineIn Go.Proofs.Ytkjmlpdbnnmlhab.polyNum Go.Proofs.Ytkjmlpdbnnmlhab.gNum Go.Proofs.Ytkjmlpdbnnmlhab.rq Go.Proofs.Ytkjmlpdbnnmlhab.powW Go.Proofs.Ytkjmlpdbnnmlhab.dotC Go.Proofs.Ytkjmlpdbnnmlhab.gap Go.Proofs.Ytkjmlpdbnnmlhab.gapR Go.Proofs.Ytkjmlpdbnnmlhab.tapR

theorem r64_lo {c : Nat} {a b : Int} (hb : 0 < b) (h : a * ((2 ^ D64 : Nat) : Int) ≤ V double c * b) : (a : Rat) / (b : Rat) ≤ r64 c := by
  have h' := Rat.intCast_le_intCast.2 h
  rw [Rat.intCast_mul, Rat.intCast_mul] at h'
  have e : (((2 ^ D64 : Nat) : Int) : Rat) = two D64 := rfl
  rw [e] at h'
  have hp := two_pos D64
  have hb' : (0 : Rat) < (b : Rat) := by exact_mod_cast hb
  have hi := Rat.le_of_lt (Rat.inv_pos.2 (Rat.mul_pos hp hb'))
  have h3 := Rat.mul_le_mul_of_nonneg_right h' hi
  unfold r64
  generalize two D64 = P at *
  generalize (b : Rat) = Q at *
  generalize (a : Rat) = S at *
  generalize (V double c : Rat) = T at *
  have e1 : S * P * (P * Q)⁻¹ = S / Q := by grind
  have e2 : T * Q * (P * Q)⁻¹ = T / P := by grind
  rwa [e1, e2] at h3
theorem c_one4 : FinW double 4607182869159980145 ∧ (100005 : Rat) / 100000 ≤ r64 4607182869159980145 :=
  ⟨by unfold values.FinW; decide +kernel, r64_lo (a := 100005) (b := 100000) (by decide) (by decide +kernel)⟩
theorem c_tenth4 : FinW double 4547007122018943789 ∧ (9 : Rat) / 100000 ≤ r64 4547007122018943789 :=
  ⟨by unfold values.FinW; decide +kernel, r64_lo (a := 9) (b := 100000) (by decide) (by decide +kernel)⟩
theorem c_milli : Bd 4562254508917369340 (D64 + 0) ∧ (999 : Rat) / 1000000 ≤ r64 4562254508917369340 :=
  ⟨⟨by unfold values.FinW; decide +kernel, by decide +kernel⟩, r64_lo (a := 999) (b := 1000000) (by decide) (by decide +kernel)⟩
theorem c_six : FinW double 4603579539098121011 ∧ r64 4603579539098121011 < 605 / 1000 := by
  refine ⟨by unfold values.FinW; decide +kernel, ?_⟩
  have h : V double 4603579539098121011 * 1000 ≤ 601 * ((2 ^ D64 : Nat) : Int) := by decide +kernel
  have h' := Rat.intCast_le_intCast.2 h
  rw [Rat.intCast_mul, Rat.intCast_mul] at h'
  have e : (((2 ^ D64 : Nat) : Int) : Rat) = two D64 := rfl
  rw [e] at h'
  have hp := two_pos D64
  have hi := Rat.le_of_lt (Rat.inv_pos.2 hp)
  have h3 := Rat.mul_le_mul_of_nonneg_right h' hi
  unfold r64
  generalize two D64 = P at *
  generalize (V double 4603579539098121011 : Rat) = T at *
  have e1 : ((601 : Int) : Rat) * P * P⁻¹ = 601 := by
    rw [show ((601 : Int) : Rat) = 601 from rfl]; grind
  have e2 : T * ((1000 : Int) : Rat) * P⁻¹ = T / P * 1000 := by
    rw [show ((1000 : Int) : Rat) = 1000 from rfl]; grind
  rw [e1, e2] at h3
  grind
theorem r64_int (m : Nat) (h : m ≤ 32) : Bd (floatOfInt .f64 (m : Int)) (D64 + 5) ∧ r64 (floatOfInt .f64 (m : Int)) = (m : Rat) := by
  obtain ⟨f, v⟩ := gap.i64_ok (m : Int) (by omega)
  refine ⟨⟨f, ?_⟩, ?_⟩
  · rw [v, k_abs, Int.natAbs_natCast, Nat.add_comm D64, Nat.pow_add]
    exact Nat.mul_le_mul_right _ h
  · unfold r64
    rw [v, cast_pow]
    have hp := two_pos D64
    have e : (((m : Nat) : Int) : Rat) = (m : Rat) := rfl
    rw [e]
    generalize two D64 = P at *
    grind
/-- A number of a taper. -/
structure TF (t : Nat) : Prop where
  bs : Bs t 1
  lo : 0 ≤ r32 t
  hi : r32 t ≤ 100001 / 100000
theorem tau_r {x : Nat} (h : V single x = tau x * 2 ^ 109) : r32 x = (tau x : Rat) / 1099511627776 := by
  unfold r32
  rw [h, cast_pow, show two 149 = two 40 * two 109 from by rw [← two_add], two_num 40 1099511627776 rfl]
  have := two_pos 109
  generalize two 109 = P at *
  grind
theorem tf (kind n k : Nat) (hk : kind < 4) (hn : n < 17) (h : k < n) : TF (tpn (kind : Int) n k) := by
  rw [tab kind hk n hn k h]
  obtain ⟨f, v, t0, t1, _⟩ := facts kind hk n hn k h
  have hr := tau_r v
  have a1 := Rat.intCast_le_intCast.2 t1
  have a0 := Rat.intCast_le_intCast.2 t0
  rw [Rat.intCast_mul] at a1
  refine ⟨⟨f, ?_⟩, ?_, ?_⟩
  · rw [v, k_abs]
    calc (tau (tw kind n k)).natAbs * 2 ^ 109 ≤ 2 ^ 41 * 2 ^ 109 := Nat.mul_le_mul_right _ (by omega)
      _ = 2 ^ (149 + 1) := by rw [← Nat.pow_add]
  · rw [hr]
    generalize (tau (tw kind n k) : Rat) = T at *
    rw [show ((0 : Int) : Rat) = 0 from rfl] at a0
    grind
  · rw [hr]
    generalize (tau (tw kind n k) : Rat) = T at *
    rw [show ((100000 : Int) : Rat) = 100000 from rfl, show ((100001 * 2 ^ 40 : Int) : Rat) = 109952262289227776 from by decide +kernel] at a1
    grind
theorem tap_impl (kind n : Nat) (hk : kind < 4) (h1 : 1 ≤ n) (hn : n ≤ 16) (w : World) :
    Calls Try.prog 70 #[.int .i64 (kind : Int), .int .i64 n] w fun e w' => ∃ A c, e = .returned (.tuple #[.slice A n c, .bool true]) ∧ w'.ownsRow w.heap.size 61 1 (.slice A n c) n (lst (fl (fun k => tpn (kind : Int) n k)) n) ∧ w.grownBy w' none := by
  have h : kind = 0 ∨ kind = 1 ∨ kind = 2 ∨ kind = 3 := by omega
  rcases h with rfl | rfl | rfl | rfl
  · exact im_even n h1 hn w
  · exact im_tri n h1 hn w
  · exact im_cos n h1 hn w
  · exact im_bin n h1 hn w
/-- What the law compares. -/
theorem cmp (kind n k : Nat) (hk : kind < 4) (hn : n < 17) (h : k < n) :
    (FloatKind.f32.format.order (tpn (kind : Int) n k) 0 == some .gt || FloatKind.f32.format.order (tpn (kind : Int) n k) 0 == some .eq) = true ∧
    floatToFloatBits .f32 (tpn (kind : Int) n k) .f64 = some (wd (tpn (kind : Int) n k)) ∧ Bd (wd (tpn (kind : Int) n k)) (D64 + 1) ∧ r64 (wd (tpn (kind : Int) n k)) = r32 (tpn (kind : Int) n k) ∧
    (FloatKind.f64.format.order (wd (tpn (kind : Int) n k)) 4607182869159980145 == some .gt) = false ∧
    (FloatKind.f64.format.order (gv (wd (tpn (kind : Int) n k)) (wd (tpn (kind : Int) n (n - 1 - k)))) 4547007122018943789 == some .gt) = false := by
  have ht := tf kind n k hk hn h
  have hu := tf kind n (n - 1 - k) hk hn (by omega)
  obtain ⟨e1, e2⟩ := wd_in ht.bs (by omega)
  obtain ⟨d1, d2⟩ := wd_in hu.bs (by omega)
  obtain ⟨v1, v2⟩ := wd_r ht.bs.1
  obtain ⟨u1, u2⟩ := wd_r hu.bs.1
  refine ⟨?_, e1, e2, v2, ?_, ?_⟩
  · have hf0 : FinW single 0 := by unfold values.FinW; decide +kernel
    have ho := order_fin single ht.bs.1 hf0
    rw [show V single 0 = 0 by decide +kernel] at ho
    have hV : 0 ≤ V single (tpn (kind : Int) n k) := by
      rw [tab kind hk n hn k h]
      obtain ⟨_, v, t0, _⟩ := facts kind hk n hn k h
      rw [v, pc]
      exact Int.mul_nonneg t0 (Int.natCast_nonneg _)
    have ho' : FloatKind.f32.format.order (tpn (kind : Int) n k) 0 = some (compare (V single (tpn (kind : Int) n k)) 0) := ho
    rw [ho']
    rcases Int.lt_or_eq_of_le hV with h' | h'
    · rw [Int.compare_eq_gt.2 h']; rfl
    · rw [← h']; rfl
  · exact gt_r v1 c_one4.1 (by rw [v2]; have := ht.hi; have := c_one4.2; grind)
  · have hd : nr (r64 (wd (tpn (kind : Int) n k))) (r64 (wd (tpn (kind : Int) n (n - 1 - k)))) (1 / 100000) := by
      rw [v2, u2, tab kind hk n hn k h, tab kind hk n hn (n - 1 - k) (by omega)]
      obtain ⟨_, a1, _, _, a4⟩ := facts kind hk n hn k h
      obtain ⟨_, b1, _⟩ := facts kind hk n hn (n - 1 - k) (by omega)
      rw [tau_r a1, tau_r b1]
      have i1 : (tau (tw kind n k) - tau (tw kind n (n - 1 - k))) * 100000 ≤ 1099511627776 := by omega
      have i2 : (tau (tw kind n (n - 1 - k)) - tau (tw kind n k)) * 100000 ≤ 1099511627776 := by omega
      have j1 := Rat.intCast_le_intCast.2 i1
      have j2 := Rat.intCast_le_intCast.2 i2
      rw [Rat.intCast_mul, Rat.intCast_sub] at j1 j2
      rw [show ((100000 : Int) : Rat) = 100000 from rfl, show ((1099511627776 : Int) : Rat) = 1099511627776 from rfl] at j1 j2
      generalize (tau (tw kind n k) : Rat) = P at *
      generalize (tau (tw kind n (n - 1 - k)) : Rat) = Q at *
      unfold nr
      constructor <;> grind
    obtain ⟨g1, g2⟩ := gv_near e2 d2 (by omega) hd
    refine gt_r g1 c_tenth4.1 ?_
    rw [show two (1 + 1) = 4 from rfl, two_num 50 1125899906842624 rfl] at g2
    have := c_tenth4.2
    grind
theorem great_r (kind n : Nat) (hk : kind < 4) (hn : n < 17) (h1 : 1 ≤ n) : ∃ k, k < n ∧ 61 / 100 ≤ r32 (tpn (kind : Int) n k) := by
  obtain ⟨k, hkn, h⟩ := great kind hk n hn h1
  refine ⟨k, hkn, ?_⟩
  rw [tab kind hk n hn k hkn]
  obtain ⟨_, a1, _⟩ := facts kind hk n hn k hkn
  rw [tau_r a1]
  have h' : (67070209294336 : Int) ≤ 100 * tau (tw kind n k) := by omega
  have j := Rat.intCast_le_intCast.2 h'
  rw [Rat.intCast_mul, show ((67070209294336 : Int) : Rat) = 67070209294336 from rfl, show ((100 : Int) : Rat) = 100 from rfl] at j
  generalize (tau (tw kind n k) : Rat) = P at *
  grind
/-- The sum of the first k numbers, in 64 bits. -/
def s64 (x : Nat → Nat) : Nat → Nat
  | 0 => 0
  | k + 1 => bv .add (s64 x k) (wd (x k))
theorem s64_ok {x : Nat → Nat} {n : Nat} (hn : n ≤ 16) (hx : ∀ k, k < n → TF (x k)) : ∀ k, k ≤ n → Bd (s64 x k) (D64 + 5) ∧ nr (r64 (s64 x k)) (ssum (fun j => r32 (x j)) k) ((k : Rat) * (1 / 1099511627776)) ∧ (∀ j, j < k → floatBits .add .f64 (s64 x j) (wd (x j)) = some (s64 x (j + 1)))
  | 0, _ => by
    have hz : r64 0 = 0 := by unfold r64; rw [V_zero]; grind
    refine ⟨bd_of_r F_zero ?_, ?_, fun j h => absurd h (by omega)⟩
    · show nr (r64 0) 0 _
      rw [hz, show two 5 = 32 from rfl]; unfold nr; constructor <;> grind
    · show nr (r64 0) 0 _
      rw [hz]; unfold nr; constructor <;> grind
  | k + 1, hk => by
    obtain ⟨b, n1, ok⟩ := s64_ok hn hx k (by omega)
    have ht := hx k (by omega)
    obtain ⟨_, e2⟩ := wd_in ht.bs (by omega)
    have hr := (wd_r ht.bs.1).2
    obtain ⟨f1, b1, p1⟩ := add64 b (show Bd (wd (x k)) (D64 + 5) from ⟨e2.1, Nat.le_trans e2.2 (Nat.pow_le_pow_right (by omega) (by omega))⟩) (by omega)
    rw [show two (5 + 1) = 64 from rfl, two_num 50 1125899906842624 rfl, hr] at p1
    obtain ⟨s0, s1⟩ := ssum_bd (T := fun j => r32 (x j)) (n := n) (fun j hj => by
      have := hx j hj
      have h1 := this.lo
      have h2 := this.hi
      constructor <;> grind) (k + 1) hk
    have e : ((k + 1 : Nat) : Rat) = (k : Rat) + 1 := by push_cast; rfl
    have hk16 := nat_le (show k + 1 ≤ 16 by omega)
    have hk0 := nat_le (Nat.zero_le k)
    rw [show ((16 : Nat) : Rat) = 16 from rfl] at hk16
    rw [show ((0 : Nat) : Rat) = 0 from rfl] at hk0
    have es : ssum (fun j => r32 (x j)) (k + 1) = ssum (fun j => r32 (x j)) k + r32 (x k) := rfl
    have q1 : nr (r64 (s64 x (k + 1))) (ssum (fun j => r32 (x j)) (k + 1)) (((k + 1 : Nat) : Rat) * (1 / 1099511627776)) := by
      show nr (r64 (bv .add (s64 x k) (wd (x k)))) _ _
      rw [e, es]
      unfold nr at *
      constructor <;> grind
    refine ⟨bd_of_r b1.1 ?_, q1, fun j hj => ?_⟩
    · show nr (r64 (s64 x (k + 1))) 0 _
      rw [show two 5 = 32 from rfl]
      rw [e] at q1 s1 hk16
      unfold nr at *
      constructor <;> grind
    · by_cases hjk : j < k
      · exact ok j hjk
      · obtain rfl : j = k := by omega
        exact f1
/-- What the law compares in the end. -/
theorem last_cmp {X S : Nat} {T : Rat} {n : Nat} (hn : n ≤ 16) (hX : Bs X 5) (h1 : nr (r32 X) T ((n : Rat) * (1 / 16384))) (hS : Bd S (D64 + 5)) (h2 : nr (r64 S) T ((n : Rat) * (1 / 1099511627776))) :
    floatToFloatBits .f32 X .f64 = some (wd X) ∧ Bd (wd X) (D64 + 5) ∧ floatBits .mul .f64 4562254508917369340 (floatOfInt .f64 ((n + 1 : Nat) : Int)) = some (bv .mul 4562254508917369340 (floatOfInt .f64 ((n + 1 : Nat) : Int))) ∧
    (FloatKind.f64.format.order (gv (wd X) S) (bv .mul 4562254508917369340 (floatOfInt .f64 ((n + 1 : Nat) : Int))) == some .lt) = true := by
  obtain ⟨e1, e2⟩ := wd_in hX (by omega)
  have hr := (wd_r hX.1).2
  obtain ⟨i1, i2⟩ := r64_int (n + 1) (by omega)
  obtain ⟨f1, b1, p1⟩ := mul64 c_milli.1 i1 (by omega)
  refine ⟨e1, e2, f1, ?_⟩
  have hd : nr (r64 (wd X)) (r64 S) ((n : Rat) * (1 / 16384) + (n : Rat) * (1 / 1099511627776)) := by
    rw [hr]; unfold nr at *; constructor <;> grind
  obtain ⟨g1, g2⟩ := gv_near e2 hS (by omega) hd
  refine lt_yes g1 b1.1 ?_
  rw [show two (5 + 1) = 64 from rfl, two_num 50 1125899906842624 rfl] at g2
  rw [show two (0 + 5) = 32 from rfl, two_num 50 1125899906842624 rfl, i2] at p1
  have hn0 := nat_le (Nat.zero_le n)
  have e : ((n + 1 : Nat) : Rat) = (n : Rat) + 1 := by push_cast; rfl
  rw [e] at p1
  rw [show ((0 : Nat) : Rat) = 0 from rfl] at hn0
  have hm := Rat.mul_le_mul_of_nonneg_right c_milli.2 (show 0 ≤ (n : Rat) + 1 by grind)
  generalize r64 4562254508917369340 = C at *
  generalize (n : Rat) = N at *
  unfold nr at p1
  grind

end Go.Proofs.Ytkjmlpdbnnmlhab.tapFact
