/- The point of the unit circle at some turns, by the program and by the model. -/
import Derived.Test.YthlfclnfkgiddaaDoorRows
import Derived.Test.YthlfclnfkgiddaaDoorFloats
import Derived.Test.YthlfclnfkgiddaaDoorRound
import Derived.Test.YthlfclnfkgiddaaDoorValues
import Derived.Test.YthlfclnfkgiddaaDoorConv
import Derived.Test.YthlfclnfkgiddaaDoorFWalk
import Derived.Test.YthlfclnfkgiddaaDoorFinWalk
import Derived.Test.YthlfclnfkgiddaaDoorFloat2
import Derived.Test.YthlfclnfkgiddaaDoorFloat3
import Derived.Test.YthlfclnfkgiddaaDoorPhase
import Derived.Test.YthlfclnfkgiddaaDoorSine
import Derived.WalkKit
import Derived.ProofKit
import Derived.OpenShut
import Derived.ShutString
import Derived.ChangeOld
import Derived.Below
import Derived.Lib.Hide
import Derived.BigQuiet
import Derived.Deep.QuietTactic
import Derived.WalkLawsBesides
import Derived.Outline
import Derived.Deep.LoopGhost
namespace Go.Proofs.YthlfclnfkgiddaaDoor.phasor
open Go.ChangeShapes Go.WideShapes Go.ChangeAt Go.RowKit
open Go.ChangeMaps (open_string shut_string)
set_option linter.unusedVariables false
open Go Ieee
open Go.Proofs.YthlfclnfkgiddaaDoor.floats Go.Proofs.YthlfclnfkgiddaaDoor.round Go.Proofs.YthlfclnfkgiddaaDoor.values Go.Proofs.YthlfclnfkgiddaaDoor.conv Go.Proofs.YthlfclnfkgiddaaDoor.fWalk Go.Proofs.YthlfclnfkgiddaaDoor.finWalk Go.Proofs.YthlfclnfkgiddaaDoor.float2 Go.Proofs.YthlfclnfkgiddaaDoor.float3 Go.Proofs.YthlfclnfkgiddaaDoor.phase Go.Proofs.YthlfclnfkgiddaaDoor.sine

/-- A quarter less, as long as there is one: how often, and what is left. -/
def qs (f : Nat) : Nat := bv .sub f 4598175219545276416
def qrun : Nat → Nat → Nat → Nat × Nat
  | 0, j, f => (j, f)
  | n + 1, j, f => if (q64 : Int) ≤ V double f then qrun n (j + 1) (qs f) else (j, f)
/-- What is left without the whole part. -/
def fr0 (x : Nat) : Nat := bv .sub x (floatOfInt .f64 (((double.read x).toInt .zero).getD 0))
def fr (x : Nat) : Nat := if V double (fr0 x) < 0 then bv .add (fr0 x) 4607182418800017408 else fr0 x
/-- Cosine and sine, turned by quarters. -/
def turned (j c s : Nat) : Nat × Nat :=
  if j = 1 then (bv .sub 0 s, c) else if j = 2 then (bv .sub 0 c, bv .sub 0 s) else if j = 3 then (s, bv .sub 0 c) else (c, s)
def nw (x : Nat) : Nat := (floatToFloatBits .f64 x .f32).getD 0
def cosine (f : Nat) : Nat := sn (bv .sub 4598175219545276416 f)
def ph64 (f : Nat) : Nat × Nat := turned (qrun 5 0 f).1 (cosine (qrun 5 0 f).2) (sn (qrun 5 0 f).2)
def phR (x : Nat) : Nat × Nat := if 4503599627370496 * (4 * q64) ≤ (V double x).natAbs then (1065353216, 0) else (nw (ph64 (fr x)).1, nw (ph64 (fr x)).2)

/-- A finite word with bounds in quarters. -/
structure In4 (f k : Nat) : Prop where
  fin : FinW double f
  lt : f < 2 * double.signWeight
  lo : 0 ≤ V double f
  hi : V double f ≤ (k : Int) * (q64 : Int)

theorem fr_ok {x : Nat} (h : FinW double x) (h2 : (V double x).natAbs < 4503599627370496 * (4 * q64)) :
    ∃ n : Int, (double.read x).toInt .zero = some n ∧ -9223372036854775808 ≤ n ∧ n ≤ 9223372036854775807 ∧ floatBits .sub .f64 x (floatOfInt .f64 n) = some (fr0 x) ∧ FinW double (fr0 x) ∧
      (V double (fr0 x) < 0 → floatBits .add .f64 (fr0 x) 4607182418800017408 = some (fr x)) ∧ (¬ V double (fr0 x) < 0 → fr x = fr0 x) ∧ In4 (fr x) 4 := by
  obtain ⟨n, r, hn, n1, n2, hr, hf, b1, b2⟩ := frac0 h h2
  obtain ⟨_, _, _, _, hfn, _⟩ := whole h h2
  have e0 : fr0 x = r := by unfold fr0 bv floatOfInt; rw [hn]; simp only [Option.getD_some]; rw [hr]; rfl
  obtain ⟨n', hn', _, _, hfn, _⟩ := whole h h2
  obtain rfl : n = n' := by rw [hn] at hn'; injection hn'
  refine ⟨n, hn, n1, n2, by rw [e0]; exact hr, by rw [e0]; exact hf, fun hneg => ?_, fun hneg => by unfold fr; rw [if_neg hneg], ?_⟩
  · rw [e0] at hneg
    obtain ⟨s, hs, _⟩ := plus_one hf b1 (by omega)
    have : fr x = s := by unfold fr; rw [e0, if_pos hneg]; unfold bv; rw [hs]; rfl
    rw [this, e0]; exact hs
  · by_cases hneg : V double r < 0
    · obtain ⟨s, hs, fs, s1, s2⟩ := plus_one hf b1 (by omega)
      have : fr x = s := by unfold fr; rw [e0, if_pos hneg]; unfold bv; rw [hs]; rfl
      rw [this]
      exact ⟨fs, add_lt hf F_one hs, s1, s2⟩
    · have : fr x = r := by unfold fr; rw [e0, if_neg hneg]
      rw [this]
      exact ⟨hf, sub_lt h hfn hr, by omega, b2⟩
theorem qs_ok {f k : Nat} (h : In4 f (k + 1)) (hk : k < 4) (h1 : (q64 : Int) ≤ V double f) : floatBits .sub .f64 f 4598175219545276416 = some (qs f) ∧ In4 (qs f) k := by
  obtain ⟨r, hr, hf, r1, r2⟩ := quarter_less h.fin (by omega) h1 h.hi
  obtain ⟨e1, e2⟩ := bv_some hr
  refine ⟨e1, ?_⟩
  unfold qs
  rw [e2]
  have e3 : (((k + 1 : Nat) : Int) - 1) = (k : Int) := by omega
  rw [e3] at r2
  exact ⟨hf, sub_lt h.fin F_quarter hr, r1, r2⟩
theorem In4.small {f : Nat} (h : In4 f 0) : ¬ (q64 : Int) ≤ V double f := by
  have h4 := q64_pos
  have h3 := h.hi
  simp at h3
  omega
theorem In4.bd {f : Nat} (h : In4 f 1) : Bd f (D64 - 2) := ⟨h.fin, by rw [← q64_E]; have := h.hi; have := h.lo; simp at *; omega⟩
theorem cos_ok {f : Nat} (h : In4 f 1) : floatBits .sub .f64 4598175219545276416 f = some (bv .sub 4598175219545276416 f) ∧ In4 (bv .sub 4598175219545276416 f) 1 := by
  obtain ⟨r, hr, hf, r1, r2⟩ := to_quarter h.fin h.lo (by have := h.hi; simpa using this)
  obtain ⟨e1, e2⟩ := bv_some hr
  refine ⟨e1, ?_⟩
  rw [e2]
  exact ⟨hf, sub_lt F_quarter h.fin hr, r1, by simpa using r2⟩
theorem zero_bd (e : Nat) : Bd 0 e := ⟨F_zero, by rw [V_zero]; simp⟩
theorem neg_ok {x : Nat} (h : Bd x (D64 + 33)) : floatBits .sub .f64 0 x = some (bv .sub 0 x) ∧ Bd (bv .sub 0 x) (D64 + 34) := by
  obtain ⟨r, hr, hb, _⟩ := bd_sub (zero_bd (D64 + 33)) h (by rw [D64_is]; decide) (by rw [D64_is]; decide)
  obtain ⟨e1, e2⟩ := bv_some hr
  exact ⟨e1, by rw [e2]; exact hb⟩
theorem pw32 : mv single (161 * 2 ^ 23) * 2 ^ 925 = 2 ^ (D64 + 34) := by decide +kernel
theorem nw_ok {x : Nat} (h : Bd x (D64 + 34)) : floatToFloatBits .f64 x .f32 = some (nw x) ∧ FinW single (nw x) := by
  obtain ⟨r, hr, hrr⟩ := narrow_rnd h.1 (hi := 161 * 2 ^ 23) (by rw [inf32]; decide) (by rw [pw32]; exact h.2)
  have e : nw x = r := by unfold nw; rw [hr]; rfl
  rw [e]
  exact ⟨hr, hrr.fin⟩
theorem run_nw {x : Nat} (h : Bd x (D64 + 34)) (w : World) : (convert 163 140 (.float .f64 x)).run Tryd.prog w = .ok (.float .f32 (nw x)) w := by
  have hr := (nw_ok h).1
  rw [run_convff (P := Tryd.prog) w 163 140 .f64 .f32 x (by rw [Tryd.underlying163]; rfl) Tryd.underlying140]
  have e1 : cval .f64 w x .f32 = nw x := by unfold cval; rw [hr]
  have e2 : ccnt .f64 x .f32 = 0 := by unfold ccnt; rw [hr]; rfl
  rw [e1, e2]; rfl

theorem narrow_c : True := trivial

theorem narrow1 : True := trivial

set_option maxHeartbeats 400000 in
theorem frac_impl : True := trivial

set_option maxHeartbeats 1000000 in
set_option maxRecDepth 100000 in
theorem ph_impl : True := trivial

set_option maxHeartbeats 1000000 in
set_option maxRecDepth 100000 in
theorem ph_spec : True := trivial

theorem abs_V {x : Nat} (hx : FinW double x) : FinW double (x % 9223372036854775808) ∧ V double (x % 9223372036854775808) = ((V double x).natAbs : Int) := by
  have hx' : x % 9223372036854775808 < 9218868437227405312 := by
    have := hx; unfold FinW rg at this; rw [sw64, inf64] at this; exact this
  have e : rg double (x % 9223372036854775808) = x % 9223372036854775808 := by unfold rg; rw [sw64]; omega
  have e2 : rg double x = x % 9223372036854775808 := by unfold rg; rw [sw64]
  have hf : FinW double (x % 9223372036854775808) := by unfold FinW; rw [e, inf64]; exact hx'
  have hs : sgn double (x % 9223372036854775808) = false := by
    unfold sgn; rw [sw64, Nat.div_eq_of_lt (by omega)]; rfl
  refine ⟨hf, ?_⟩
  show sg (sgn double (x % 9223372036854775808)) (mv double (rg double (x % 9223372036854775808))) = ((sg (sgn double x) (mv double (rg double x))).natAbs : Int)
  rw [hs, e, sg_abs, e2]
  rfl

end Go.Proofs.YthlfclnfkgiddaaDoor.phasor
