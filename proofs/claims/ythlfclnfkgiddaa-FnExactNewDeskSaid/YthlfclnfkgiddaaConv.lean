/- Conversions between the two formats, in whatever world; comparisons as those of values. -/
import Derived.Test.YthlfclnfkgiddaaFloats
import Derived.Test.YthlfclnfkgiddaaRound
import Derived.Test.YthlfclnfkgiddaaValues
namespace Go.Proofs.Ythlfclnfkgiddaa.conv
set_option linter.unusedVariables false
open Go Ieee
open Go.Proofs.Ythlfclnfkgiddaa.floats Go.Proofs.Ythlfclnfkgiddaa.round Go.Proofs.Ythlfclnfkgiddaa.values

theorem fmt32 : FloatKind.f32.format = single := rfl
theorem fmt64 : FloatKind.f64.format = double := rfl
theorem lp32 : single.leastPlace = -149 := by decide +kernel
theorem lp64 : double.leastPlace = -1074 := by decide +kernel

/-! ## a conversion, in whatever world -/
def convQ (src : FloatKind) (b : Nat) (dst : FloatKind) : Question :=
  match src.decode b with
  | .nan _ _ => .nanConv dst b
  | _ => .floatToFloat b
def cval (src : FloatKind) (w : World) (b : Nat) (dst : FloatKind) : Nat :=
  match floatToFloatBits src b dst with
  | some r => r
  | none => (convQ src b dst).cut (w.tape w.drawn (convQ src b dst))
def ccnt (src : FloatKind) (b : Nat) (dst : FloatKind) : Nat := if (floatToFloatBits src b dst).isSome then 0 else 1
def Fits (src : FloatKind) (b : Nat) (dst : FloatKind) : Prop := isNaN src b = true ∨ (floatToFloatBits src b dst).isSome = true
/-- the same with one not-a-number -/
def cop (src : FloatKind) (b : Nat) (dst : FloatKind) : Nat :=
  match floatToFloatBits src b dst with
  | some r => can dst r
  | none => nan dst

theorem run_convff {P : Program} (w : World) (s d : TypeId) (src dst : FloatKind) (b : Nat) (hs : (P.underlying s).isSome = true) (hd : P.underlying d = some (.float dst)) :
    (convert s d (.float src b)).run P w = .ok (.float dst (cval src w b dst)) (w.drewN (ccnt src b dst)) := by
  unfold cval ccnt
  cases hb : floatToFloatBits src b dst with
  | some r => exact run_convert_float_float w s d src dst b r hs hd hb
  | none =>
    obtain ⟨u, hs'⟩ := Option.isSome_iff_exists.1 hs
    have hne : src ≠ dst := by intro e; subst e; simp [floatToFloatBits] at hb
    unfold floatToFloatBits at hb
    rw [if_neg hne] at hb
    unfold convQ
    cases hdec : src.decode b with
    | nan sg fr =>
      cases u <;> simp [convert, run_underlying hs', run_underlying hd, Conv.floatToFloat, hne, hdec, Question.forced, World.drewN]
    | infinity sg => rw [hdec] at hb; simp at hb
    | number sg m e =>
      rw [hdec] at hb
      simp only at hb
      split at hb
      · rename_i ho
        cases u <;> simp [convert, run_underlying hs', run_underlying hd, Conv.floatToFloat, hne, hdec, ho, Question.forced, World.drewN]
      · cases hb

theorem can_cval {src : FloatKind} {w : World} {b : Nat} {dst : FloatKind} (h : Fits src b dst) (hne : src ≠ dst) : can dst (cval src w b dst) = cop src b dst := by
  unfold cval cop
  cases hb : floatToFloatBits src b dst with
  | some r => rfl
  | none =>
    have hn : isNaN src b = true := by
      rcases h with h | h
      · exact h
      · rw [hb] at h; cases h
    unfold convQ
    unfold isNaN at hn
    revert hn
    cases src.decode b <;> simp [Datum.isNaN]
    simp [can, nanConv_nan]
theorem cval_self (k : FloatKind) (w : World) (b : Nat) : cval k w b k = b := by simp [cval, floatToFloatBits]
theorem ccnt_self (k : FloatKind) (b : Nat) : ccnt k b k = 0 := by simp [ccnt, floatToFloatBits]

theorem cop_can {src : FloatKind} {b : Nat} {dst : FloatKind} (hne : src ≠ dst) : cop src (can src b) dst = cop src b dst := by
  by_cases h : isNaN src b = true
  · have e : ∀ c, isNaN src c = true → floatToFloatBits src c dst = none := by
      intro c hc
      unfold floatToFloatBits
      rw [if_neg hne]
      unfold isNaN at hc
      revert hc
      cases src.decode c <;> simp [Datum.isNaN]
    unfold cop; rw [e b h, e (can src b) (by rw [isNaN_can]; exact h)]
  · rw [can_of_not (by simpa using h)]

/-! ## comparisons -/
theorem compare_scale (a b : Int) (n : Nat) : compare (a * 2 ^ n) (b * 2 ^ n) = compare a b := by
  have hp : (0 : Int) < 2 ^ n := by have := Nat.two_pow_pos n; exact_mod_cast this
  rcases Int.lt_trichotomy a b with h | h | h
  · rw [Int.compare_eq_lt.2 h, Int.compare_eq_lt.2 (Int.mul_lt_mul_of_pos_right h hp)]
  · subst h; simp
  · rw [Int.compare_eq_gt.2 h, Int.compare_eq_gt.2 (Int.mul_lt_mul_of_pos_right h hp)]

theorem order_fin (f : Format) {x y : Nat} (hx : FinW f x) (hy : FinW f y) : f.order x y = some (compare (V f x) (V f y)) := by
  obtain ⟨m, i, ex, vx⟩ := read_fin f hx
  obtain ⟨n, j, ey, vy⟩ := read_fin f hy
  unfold Format.order
  rw [ex, ey, V_read vx, V_read vy]
  unfold Datum.order
  dsimp only
  rcases Nat.le_total i j with h | h
  · obtain ⟨x, rfl⟩ := Nat.exists_eq_add_of_le h
    rw [show min (f.leastPlace + i : Int) (f.leastPlace + (i + x : Nat)) = f.leastPlace + i from by omega,
      show (f.leastPlace + i - (f.leastPlace + i) : Int).toNat = 0 from by omega,
      show (f.leastPlace + (i + x : Nat) - (f.leastPlace + i) : Int).toNat = x from by omega, signed_sg, signed_sg]
    rw [Nat.add_comm i x, sg_pow, show sg (sgn f _) (m * 2 ^ i) = sg (sgn f _) (m * 2 ^ (0 + i)) from by rw [Nat.zero_add], sg_pow, compare_scale]
  · obtain ⟨x, rfl⟩ := Nat.exists_eq_add_of_le h
    rw [show min (f.leastPlace + (j + x : Nat) : Int) (f.leastPlace + j) = f.leastPlace + j from by omega,
      show (f.leastPlace + j - (f.leastPlace + j) : Int).toNat = 0 from by omega,
      show (f.leastPlace + (j + x : Nat) - (f.leastPlace + j) : Int).toNat = x from by omega, signed_sg, signed_sg]
    rw [Nat.add_comm j x, sg_pow, show sg (sgn f _) (n * 2 ^ j) = sg (sgn f _) (n * 2 ^ (0 + j)) from by rw [Nat.zero_add], sg_pow, compare_scale]

/-! ## between the formats -/
theorem inf_word (f : Format) (neg : Bool) {r : Nat} (h : r < f.infRung) : (f.read (f.word neg r)).isInfinity = false := by
  have hsw := inf_lt_sw f
  obtain ⟨m, e, hr, _⟩ := read_fin f (x := f.word neg r) (by unfold FinW; rw [rg_word f neg (by omega)]; exact h)
  rw [hr]; rfl

/-- NARROWING, where it fits. -/
theorem narrow_rnd {x hi : Nat} (hx : FinW double x) (hhi : hi < single.infRung) (hb : (V double x).natAbs ≤ mv single hi * 2 ^ 925) :
    ∃ r, floatToFloatBits .f64 x .f32 = some r ∧ Rnd single (V double x) 925 r := by
  obtain ⟨m, e, ex, vx⟩ := read_fin double hx
  rw [V_read vx] at hb ⊢
  rw [sg_abs] at hb
  have hh := nearest_rnd single (sgn double x) m (double.leastPlace + e) (p := e) (d := 925) (by rw [lp32, lp64]; omega) hhi hb
  refine ⟨single.nearest (sgn double x) m (double.leastPlace + e), ?_, hh.1⟩
  obtain ⟨r, hr, er⟩ := hh.2
  unfold floatToFloatBits
  rw [if_neg (by decide)]
  show (match double.read x with | .nan _ _ => none | .infinity s => some (FloatKind.f32.encode (.infinity s)) | .number s m e => if (FloatKind.f32.decode (FloatKind.f32.encode (.number s m e))).isInfinity then none else some (FloatKind.f32.encode (.number s m e))) = _
  rw [ex]
  dsimp only
  have e1 : FloatKind.f32.encode (.number (sgn double x) m (double.leastPlace + e)) = single.nearest (sgn double x) m (double.leastPlace + e) := rfl
  have e2 : (FloatKind.f32.decode (single.nearest (sgn double x) m (double.leastPlace + e))).isInfinity = false := by
    rw [er]; exact inf_word single _ (by omega)
  rw [e1, e2]; rfl

theorem mv32_lt {r : Nat} (h : r < single.infRung) : mv single r * 2 ^ 925 ≤ mv double 9218868437227405311 := by
  have h1 := mv_mono single (show r ≤ 2139095039 from by rw [inf32] at h; omega)
  have h2 : mv single 2139095039 * 2 ^ 925 ≤ mv double 9218868437227405311 := by decide +kernel
  exact Nat.le_trans (Nat.mul_le_mul_right _ h1) h2

/-- WIDENING: always. -/
theorem widen_rnd {x : Nat} (hx : FinW single x) : ∃ r, floatToFloatBits .f32 x .f64 = some r ∧ Rnd double (V single x * 2 ^ 925) 0 r := by
  obtain ⟨m, e, ex, vx⟩ := read_fin single hx
  have hb : m * 2 ^ (e + 925) ≤ mv double 9218868437227405311 * 2 ^ 0 := by
    rw [Nat.pow_add, ← Nat.mul_assoc, vx, Nat.pow_zero, Nat.mul_one]; exact mv32_lt hx
  have hh := nearest_rnd double (sgn single x) m (single.leastPlace + e) (p := e + 925) (d := 0) (by rw [lp32, lp64]; omega) (hi := 9218868437227405311) (by rw [inf64]; decide) hb
  refine ⟨double.nearest (sgn single x) m (single.leastPlace + e), ?_, ?_⟩
  · obtain ⟨r, hr, er⟩ := hh.2
    unfold floatToFloatBits
    rw [if_neg (by decide)]
    show (match single.read x with | .nan _ _ => none | .infinity s => some (FloatKind.f64.encode (.infinity s)) | .number s m e => if (FloatKind.f64.decode (FloatKind.f64.encode (.number s m e))).isInfinity then none else some (FloatKind.f64.encode (.number s m e))) = _
    rw [ex]
    dsimp only
    have e1 : FloatKind.f64.encode (.number (sgn single x) m (single.leastPlace + e)) = double.nearest (sgn single x) m (single.leastPlace + e) := rfl
    have e2 : (FloatKind.f64.decode (double.nearest (sgn single x) m (single.leastPlace + e))).isInfinity = false := by
      rw [er]; exact inf_word double _ (by rw [inf64]; omega)
    rw [e1, e2]; rfl
  · rw [V_read vx, ← sg_pow]; exact hh.1

/-! ## three kinds of words -/
theorem kinds (f : Format) (hb : f.binade ≤ f.infRung) (x : Nat) : FinW f x ∨ (∃ s, f.read x = .infinity s ∧ rg f x = f.infRung ∧ s = sgn f x) ∨ (f.read x).isNaN = true := by
  by_cases h : FinW f x
  · exact .inl h
  · right
    unfold FinW rg at h
    by_cases h1 : x % f.signWeight = f.infRung
    · left
      refine ⟨sgn f x, ?_, h1, rfl⟩
      unfold Format.read sgn
      dsimp only
      rw [if_neg (by omega), if_neg h, if_pos h1]
    · right
      unfold Format.read
      dsimp only
      rw [if_neg (by omega), if_neg h, if_neg h1]
      rfl
theorem kinds32 (x : Nat) : FinW single x ∨ (∃ s, single.read x = .infinity s ∧ rg single x = single.infRung ∧ s = sgn single x) ∨ isNaN .f32 x = true := kinds single (by rw [bi32, inf32]; decide) x
theorem kinds64 (x : Nat) : FinW double x ∨ (∃ s, double.read x = .infinity s ∧ rg double x = double.infRung ∧ s = sgn double x) ∨ isNaN .f64 x = true := kinds double (by rw [bi64, inf64]; decide) x

theorem wide_fits (x : Nat) : Fits .f32 x .f64 := by
  rcases kinds32 x with h | ⟨s, h, _⟩ | h
  · obtain ⟨r, hr, _⟩ := widen_rnd h
    right; rw [hr]; rfl
  · right
    unfold floatToFloatBits
    rw [if_neg (by decide)]
    show (match single.read x with | .nan _ _ => none | .infinity s => some (FloatKind.f64.encode (.infinity s)) | .number s m e => if (FloatKind.f64.decode (FloatKind.f64.encode (.number s m e))).isInfinity then none else some (FloatKind.f64.encode (.number s m e))).isSome = true
    rw [h]; rfl
  · left; exact h

end Go.Proofs.Ythlfclnfkgiddaa.conv
