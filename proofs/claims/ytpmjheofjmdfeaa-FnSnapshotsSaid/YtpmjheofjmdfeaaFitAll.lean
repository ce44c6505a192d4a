/- Products of any complex numbers, by the program and the model, but for the bits of not-a-numbers. -/
/- What a source sends, times a phase, can be narrowed: it is finite, infinite or a not-a-number in 64 bits, and not too great. -/
import Derived.Test.YtpmjheofjmdfeaaRows
import Derived.Test.YtpmjheofjmdfeaaSlc
import Derived.Test.YtpmjheofjmdfeaaFloatAll
import Derived.Test.YtpmjheofjmdfeaaFWalk
import Derived.Test.YtpmjheofjmdfeaaSmall
import Derived.Test.YtpmjheofjmdfeaaOpens
import Derived.Test.YtpmjheofjmdfeaaFinWalk
import Derived.Test.YtpmjheofjmdfeaaRoot
import Derived.Test.YtpmjheofjmdfeaaFlAll
import Derived.Test.YtpmjheofjmdfeaaPhasor
import Derived.Test.YtpmjheofjmdfeaaListC
import Derived.Test.YtpmjheofjmdfeaaSteerNum
import Derived.Test.YtpmjheofjmdfeaaSineIn
import Derived.Test.YtpmjheofjmdfeaaPolyAll
import Derived.Test.YtpmjheofjmdfeaaGAll
import Derived.Test.YtpmjheofjmdfeaaTwinNum
import Derived.Test.YtpmjheofjmdfeaaPhDef
import Derived.Test.YtpmjheofjmdfeaaPhTabA
import Derived.Test.YtpmjheofjmdfeaaPhTabB
import Derived.Test.YtpmjheofjmdfeaaPhTabC
import Derived.Test.YtpmjheofjmdfeaaPhTabD
import Derived.Test.YtpmjheofjmdfeaaPhAll
import Derived.WalkKit
import Derived.ProofKit
import Derived.OpenShut
import Derived.ShutString
import Derived.ChangeOld
import Derived.Below
import Derived.Lib.Hide
import Derived.BigQuiet
import Derived.Deep.QuietTactic
import Derived.WalkLawsBesides
import Derived.Outline
import Derived.Deep.LoopGhost
import Derived.Laws.ComplexArith
namespace Go.Proofs.Ytpmjheofjmdfeaa.mulAny
open Go.ChangeShapes Go.WideShapes Go.ChangeAt Go.RowKit
open Go.ChangeMaps (open_string shut_string)
set_option linter.unusedVariables false
open Go Ieee Go.RowKit
open Go.Proofs.Ytpmjheofjmdfeaa.slc Go.Proofs.Ytpmjheofjmdfeaa.floats Go.Proofs.Ytpmjheofjmdfeaa.round Go.Proofs.Ytpmjheofjmdfeaa.values Go.Proofs.Ytpmjheofjmdfeaa.conv Go.Proofs.Ytpmjheofjmdfeaa.fWalk

theorem cv3264 (w : World) (b : Nat) : (convert 35 80 (.float .f32 b)).run Try.prog w = .ok (.float .f64 (cval .f32 w b .f64)) (w.drewN (ccnt .f32 b .f64)) :=
  run_convff w _ _ .f32 .f64 b (by rw [Try.underlying35]; rfl) Try.underlying80
theorem cv6432 (w : World) (b : Nat) : (convert 80 35 (.float .f64 b)).run Try.prog w = .ok (.float .f32 (cval .f64 w b .f32)) (w.drewN (ccnt .f64 b .f32)) :=
  run_convff w _ _ .f64 .f32 b (by rw [Try.underlying80]; rfl) Try.underlying35
theorem run_fmul' (w : World) (t : TypeId) (k : FloatKind) (x y : Nat) : (binOp .mul t (.float k x) (.float k y)).run Try.prog w = .ok (.float k (fval .mul k w x y)) (w.drewN (fcnt .mul k x y)) := run_floatop w .mul t k x y rfl
theorem run_fsub' (w : World) (t : TypeId) (k : FloatKind) (x y : Nat) : (binOp .sub t (.float k x) (.float k y)).run Try.prog w = .ok (.float k (fval .sub k w x y)) (w.drewN (fcnt .sub k x y)) := run_floatop w .sub t k x y rfl
theorem run_fadd' (w : World) (t : TypeId) (k : FloatKind) (x y : Nat) : (binOp .add t (.float k x) (.float k y)).run Try.prog w = .ok (.float k (fval .add k w x y)) (w.drewN (fcnt .add k x y)) := run_floatop w .add t k x y rfl

/-- A part of a product in 64 bits; op: sub or add. -/
def mw (op : BinOp) (a b c d : Nat) : Nat := fop op .f64 (fop .mul .f64 (cop .f32 a .f64) (cop .f32 c .f64)) (fop .mul .f64 (cop .f32 b .f64) (cop .f32 d .f64))
/-- A part of a product. -/
def mp (op : BinOp) (a b c d : Nat) : Nat := cop .f64 (mw op a b c d) .f32
theorem fits_can {u X : Nat} (h : can .f64 u = X) (hf : Fits .f64 X .f32) : Fits .f64 u .f32 := by
  by_cases hn : isNaN .f64 u = true
  · exact .inl hn
  · rw [can_of_not (by simpa using hn)] at h
    subst h
    exact hf
theorem fop_eq (op : BinOp) (k : FloatKind) {x y X Y : Nat} (hx : can k x = X) (hy : can k y = Y) : fop op k x y = fop op k X Y := by rw [← hx, ← hy, fop_can]
theorem mp_can (op : BinOp) {a b a' b' : Nat} (c d : Nat) (ha : can .f32 a = can .f32 a') (hb : can .f32 b = can .f32 b') : mw op a b c d = mw op a' b' c d := by
  unfold mw
  rw [← cop_can (b := a) (by decide), ← cop_can (b := b) (by decide), ha, hb, cop_can (by decide), cop_can (by decide)]

section
attribute [local go_sem] cv3264 cv6432 run_fmul' run_fsub' run_fadd'
theorem widen_a (a b : Nat) (w : World) : Calls Try.prog 133 #[.complex .f32 a b] w fun e w' => ∃ p q, e = .returned (.complex .f64 p q) ∧ can .f64 p = cop .f32 a .f64 ∧ can .f64 q = cop .f32 b .f64 ∧ w.grownBy w' none := by
  go_enter Try.func133, Try.ntmps133
  go_wp2
  go_ret
  exact ⟨_, _, rfl, can_cval (wide_fits _) (by decide), can_cval (wide_fits _) (by decide), gb_drewN _ _ _⟩
theorem times_a (a b c d : Nat) (w : World) : Calls Try.prog 136 #[.complex .f64 a b, .complex .f64 c d] w fun e w' => ∃ p q, e = .returned (.complex .f64 p q) ∧ can .f64 p = fop .sub .f64 (fop .mul .f64 a c) (fop .mul .f64 b d) ∧ can .f64 q = fop .add .f64 (fop .mul .f64 a d) (fop .mul .f64 b c) ∧ w.grownBy w' none := by
  go_enter Try.func136, Try.ntmps136
  go_wp2
  go_ret
  exact ⟨_, _, rfl, (can_fval _ _ _ _ _).trans (fop_eq _ _ (can_fval _ _ _ _ _) (can_fval _ _ _ _ _)), (can_fval _ _ _ _ _).trans (fop_eq _ _ (can_fval _ _ _ _ _) (can_fval _ _ _ _ _)), gb_drewN _ _ _⟩
theorem narrow_a (a b : Nat) (w : World) (ha : Fits .f64 a .f32) (hb : Fits .f64 b .f32) : Calls Try.prog 137 #[.complex .f64 a b] w fun e w' => ∃ p q, e = .returned (.complex .f32 p q) ∧ can .f32 p = cop .f64 a .f32 ∧ can .f32 q = cop .f64 b .f32 ∧ w.grownBy w' none := by
  go_enter Try.func137, Try.ntmps137
  go_wp2
  go_ret
  exact ⟨_, _, rfl, can_cval ha (by decide), can_cval hb (by decide), gb_drewN _ _ _⟩
theorem wide_a (a b : Nat) (w : World) : Calls Try.prog 239 #[.complex .f32 a b] w fun e w' => ∃ p q, e = .returned (.complex .f64 p q) ∧ can .f64 p = cop .f32 a .f64 ∧ can .f64 q = cop .f32 b .f64 ∧ w.grownBy w' none := by
  go_enter Try.func239, Try.ntmps239
  go_wp2
  go_ret
  exact ⟨_, _, rfl, can_cval (wide_fits _) (by decide), can_cval (wide_fits _) (by decide), gb_drewN _ _ _⟩
theorem wmul_a (a b c d : Nat) (w : World) : Calls Try.prog 238 #[.complex .f64 a b, .complex .f64 c d] w fun e w' => ∃ p q, e = .returned (.complex .f64 p q) ∧ can .f64 p = fop .sub .f64 (fop .mul .f64 a c) (fop .mul .f64 b d) ∧ can .f64 q = fop .add .f64 (fop .mul .f64 a d) (fop .mul .f64 b c) ∧ w.grownBy w' none := by
  go_enter Try.func238, Try.ntmps238
  go_wp2
  go_ret
  exact ⟨_, _, rfl, (can_fval _ _ _ _ _).trans (fop_eq _ _ (can_fval _ _ _ _ _) (can_fval _ _ _ _ _)), (can_fval _ _ _ _ _).trans (fop_eq _ _ (can_fval _ _ _ _ _) (can_fval _ _ _ _ _)), gb_drewN _ _ _⟩
theorem nar1_a (a : Nat) (w : World) (ha : Fits .f64 a .f32) : Calls Try.prog 242 #[.float .f64 a] w fun e w' => ∃ p, e = .returned (.float .f32 p) ∧ can .f32 p = cop .f64 a .f32 ∧ w.grownBy w' none := by
  go_enter Try.func242, Try.ntmps242
  go_wp2
  go_ret
  exact ⟨_, rfl, can_cval ha (by decide), gb_drewN _ _ _⟩
end
theorem cnar_a (a b : Nat) (w : World) (ha : Fits .f64 a .f32) (hb : Fits .f64 b .f32) : Calls Try.prog 244 #[.complex .f64 a b] w fun e w' => ∃ p q, e = .returned (.complex .f32 p q) ∧ can .f32 p = cop .f64 a .f32 ∧ can .f32 q = cop .f64 b .f32 ∧ w.grownBy w' none := by
  have HA := Lib.hid ha
  have HB := Lib.hid hb
  clear ha hb
  go_enter Try.func244, Try.ntmps244
  go_wp2_with fail
  refine (nar1_a _ _ HA.out).mono ?_
  rintro e w1 ⟨p, rfl, hp, g1⟩
  have HP := Lib.hid hp
  clear hp
  go_wp2_with fail
  refine (nar1_a _ _ HB.out).mono ?_
  rintro e w2 ⟨q, rfl, hq, g2⟩
  have HQ := Lib.hid hq
  clear hq
  go_wp2_with fail
  go_ret
  exact ⟨p, q, rfl, HP.out, HQ.out, g1.trans g2⟩
theorem fop_mul2 {a b c d a' b' c' d' : Nat} (op : BinOp) (h1 : can .f64 a = a') (h2 : can .f64 b = b') (h3 : can .f64 c = c') (h4 : can .f64 d = d') : fop op .f64 (fop .mul .f64 a c) (fop .mul .f64 b d) = fop op .f64 (fop .mul .f64 a' c') (fop .mul .f64 b' d') := by
  rw [fop_eq .mul .f64 h1 h3, fop_eq .mul .f64 h2 h4]
theorem mul_a (a b c d : Nat) (w : World) (hf : Fits .f64 (mw .sub a b c d) .f32) (hg : Fits .f64 (mw .add a b d c) .f32) :
    Calls Try.prog 32 #[.complex .f32 a b, .complex .f32 c d] w fun e w' => ∃ p q, e = .returned (.complex .f32 p q) ∧ can .f32 p = mp .sub a b c d ∧ can .f32 q = mp .add a b d c ∧ w.grownBy w' none := by
  have HF := Lib.hid hf
  have HG := Lib.hid hg
  clear hf hg
  go_enter Try.func32, Try.ntmps32
  go_wp2_with fail
  refine (widen_a _ _ _).mono ?_
  rintro e w1 ⟨a1, b1, rfl, ha, hb, g1⟩
  have HA := Lib.hid ha
  have HB := Lib.hid hb
  clear ha hb
  go_wp2_with fail
  refine (widen_a _ _ _).mono ?_
  rintro e w2 ⟨c1, d1, rfl, hc, hd, g2⟩
  have HC := Lib.hid hc
  have HD := Lib.hid hd
  clear hc hd
  go_wp2_with fail
  refine (times_a _ _ _ _ _).mono ?_
  rintro e w3 ⟨p, q, rfl, hp, hq, g3⟩
  have HP := Lib.hid (hp.trans (fop_mul2 .sub HA.out HB.out HC.out HD.out) : can .f64 p = mw .sub a b c d)
  have HQ := Lib.hid (hq.trans (fop_mul2 .add HA.out HB.out HD.out HC.out) : can .f64 q = mw .add a b d c)
  clear hp hq
  go_wp2_with fail
  refine (narrow_a _ _ _ (fits_can HP.out HF.out) (fits_can HQ.out HG.out)).mono ?_
  rintro e w4 ⟨r, s, rfl, hr, hs, g4⟩
  have HR := Lib.hid (show can .f32 r = mp .sub a b c d by unfold mp; rw [hr, ← HP.out, cop_can (by decide)])
  have HS := Lib.hid (show can .f32 s = mp .add a b d c by unfold mp; rw [hs, ← HQ.out, cop_can (by decide)])
  clear hr hs
  go_wp2_with fail
  go_ret
  exact ⟨r, s, rfl, HR.out, HS.out, ((g1.trans g2).trans g3).trans g4⟩
theorem mul_b (a b c d : Nat) (w : World) (hf : Fits .f64 (mw .sub a b c d) .f32) (hg : Fits .f64 (mw .add a b d c) .f32) :
    Calls Try.prog 178 #[.complex .f32 a b, .complex .f32 c d] w fun e w' => ∃ p q, e = .returned (.complex .f32 p q) ∧ can .f32 p = mp .sub a b c d ∧ can .f32 q = mp .add a b d c ∧ w.grownBy w' none := by
  have HF := Lib.hid hf
  have HG := Lib.hid hg
  clear hf hg
  go_enter Try.func178, Try.ntmps178
  go_wp2_with fail
  refine (wide_a _ _ _).mono ?_
  rintro e w1 ⟨a1, b1, rfl, ha, hb, g1⟩
  have HA := Lib.hid ha
  have HB := Lib.hid hb
  clear ha hb
  go_wp2_with fail
  refine (wide_a _ _ _).mono ?_
  rintro e w2 ⟨c1, d1, rfl, hc, hd, g2⟩
  have HC := Lib.hid hc
  have HD := Lib.hid hd
  clear hc hd
  go_wp2_with fail
  refine (wmul_a _ _ _ _ _).mono ?_
  rintro e w3 ⟨p, q, rfl, hp, hq, g3⟩
  have HP := Lib.hid (hp.trans (fop_mul2 .sub HA.out HB.out HC.out HD.out) : can .f64 p = mw .sub a b c d)
  have HQ := Lib.hid (hq.trans (fop_mul2 .add HA.out HB.out HD.out HC.out) : can .f64 q = mw .add a b d c)
  clear hp hq
  go_wp2_with fail
  refine (cnar_a _ _ _ (fits_can HP.out HF.out) (fits_can HQ.out HG.out)).mono ?_
  rintro e w4 ⟨r, s, rfl, hr, hs, g4⟩
  have HR := Lib.hid (show can .f32 r = mp .sub a b c d by unfold mp; rw [hr, ← HP.out, cop_can (by decide)])
  have HS := Lib.hid (show can .f32 s = mp .add a b d c by unfold mp; rw [hs, ← HQ.out, cop_can (by decide)])
  clear hr hs
  go_wp2_with fail
  go_ret
  exact ⟨r, s, rfl, HR.out, HS.out, ((g1.trans g2).trans g3).trans g4⟩

end Go.Proofs.Ytpmjheofjmdfeaa.mulAny

namespace Go.Proofs.Ytpmjheofjmdfeaa.fitsAny
open Go.ChangeShapes Go.WideShapes Go.ChangeAt Go.RowKit
open Go.ChangeMaps (open_string shut_string)
set_option linter.unusedVariables false
open Go Ieee Go.RowKit
open Go.Proofs.Ytpmjheofjmdfeaa.slc Go.Proofs.Ytpmjheofjmdfeaa.floats Go.Proofs.Ytpmjheofjmdfeaa.round Go.Proofs.Ytpmjheofjmdfeaa.values Go.Proofs.Ytpmjheofjmdfeaa.conv Go.Proofs.Ytpmjheofjmdfeaa.fWalk Go.Proofs.Ytpmjheofjmdfeaa.float2 Go.Proofs.Ytpmjheofjmdfeaa.float3 Go.Proofs.Ytpmjheofjmdfeaa.phase Go.Proofs.Ytpmjheofjmdfeaa.sine Go.Proofs.Ytpmjheofjmdfeaa.phasor Go.Proofs.Ytpmjheofjmdfeaa.listC Go.Proofs.Ytpmjheofjmdfeaa.steerNum Go.Proofs.Ytpmjheofjmdfeaa.sineIn Go.Proofs.Ytpmjheofjmdfeaa.polyNum Go.Proofs.Ytpmjheofjmdfeaa.rq Go.Proofs.Ytpmjheofjmdfeaa.steerR Go.Proofs.Ytpmjheofjmdfeaa.mulAny

/-! ## numbers that are not finite -/
theorem inf_nf (k : FloatKind) (s : Bool) : ¬ FinW k.format (can k (k.format.write (.infinity s))) := by
  unfold FinW
  cases k <;> cases s <;> decide +kernel
theorem nan_nf (k : FloatKind) : ¬ FinW k.format (nan k) := by
  unfold FinW
  cases k <;> decide +kernel
theorem nfk (k : FloatKind) {x : Nat} (h : ¬ FinW k.format x) : (∃ s, k.format.read x = .infinity s) ∨ isNaN k x = true := by
  cases k
  · rcases kinds32 x with h1 | ⟨s, h1, _⟩ | h1
    · exact absurd h1 h
    · exact .inl ⟨s, h1⟩
    · exact .inr h1
  · rcases kinds64 x with h1 | ⟨s, h1, _⟩ | h1
    · exact absurd h1 h
    · exact .inl ⟨s, h1⟩
    · exact .inr h1
theorem out_nf (k : FloatKind) (o : Option Datum) (h : o = none ∨ ∃ s, o = some (.infinity s)) : ¬ FinW k.format (match o.map k.format.write with | some r => can k r | none => nan k) := by
  rcases h with rfl | ⟨s, rfl⟩
  · exact nan_nf k
  · exact inf_nf k s
theorem prod_nf (d e : Datum) (h : (∃ s, d = .infinity s) ∨ d.isNaN = true) : d.product e = none ∨ ∃ s, d.product e = some (.infinity s) := by
  rcases h with ⟨s, rfl⟩ | h
  · cases e with
    | number t n j =>
      simp only [Datum.product]
      by_cases hn : n = 0
      · rw [if_pos hn]; exact .inl rfl
      · rw [if_neg hn]; exact .inr ⟨_, rfl⟩
    | infinity t => exact .inr ⟨_, rfl⟩
    | nan _ _ => exact .inl rfl
  · cases d <;> simp [Datum.isNaN] at h
    exact .inl (by cases e <;> rfl)
theorem sum_nf (d e : Datum) (h : (∃ s, d = .infinity s) ∨ d.isNaN = true) : d.sum e = none ∨ ∃ s, d.sum e = some (.infinity s) := by
  rcases h with ⟨s, rfl⟩ | h
  · cases e with
    | number t n j => exact .inr ⟨_, rfl⟩
    | infinity t =>
      simp only [Datum.sum]
      by_cases hn : s = t
      · rw [if_pos hn]; exact .inr ⟨_, rfl⟩
      · rw [if_neg hn]; exact .inl rfl
    | nan _ _ => exact .inl rfl
  · cases d <;> simp [Datum.isNaN] at h
    exact .inl (by cases e <;> rfl)
theorem nf_mul (k : FloatKind) {x : Nat} (y : Nat) (h : ¬ FinW k.format x) : ¬ FinW k.format (fop .mul k x y) :=
  out_nf k _ (prod_nf _ (k.format.read y) (nfk k h))
theorem nf_add (k : FloatKind) {x : Nat} (y : Nat) (h : ¬ FinW k.format x) : ¬ FinW k.format (fop .add k x y) :=
  out_nf k _ (sum_nf _ (k.format.read y) (nfk k h))
theorem nf_sub (k : FloatKind) {x : Nat} (y : Nat) (h : ¬ FinW k.format x) : ¬ FinW k.format (fop .sub k x y) :=
  out_nf k _ (sum_nf _ (k.format.read y).opposite (nfk k h))
theorem nf_mul_r (k : FloatKind) (x : Nat) {y : Nat} (h : ¬ FinW k.format y) : ¬ FinW k.format (fop .mul k x y) := by
  have e : ∀ d e : Datum, d.product e = e.product d := by
    intro d e
    cases d <;> cases e <;> simp [Datum.product, Bool.xor_comm, Nat.mul_comm, Int.add_comm]
  have := out_nf k _ (prod_nf _ (k.format.read x) (nfk k h))
  rw [e] at this
  exact this
theorem nf_wide {x : Nat} (h : ¬ FinW single x) : ¬ FinW double (cop .f32 x .f64) := by
  rcases nfk .f32 h with ⟨s, h1⟩ | h1
  · have e : floatToFloatBits .f32 x .f64 = some (FloatKind.f64.encode (.infinity s)) := by
      unfold floatToFloatBits
      rw [if_neg (by decide)]
      show (match single.read x with | .nan _ _ => none | .infinity s => some (FloatKind.f64.encode (.infinity s)) | .number s m e => if (FloatKind.f64.decode (FloatKind.f64.encode (.number s m e))).isInfinity then none else some (FloatKind.f64.encode (.number s m e))) = _
      have h1' : single.read x = .infinity s := h1
      rw [h1']
    unfold cop
    rw [e]
    exact inf_nf .f64 s
  · rw [← cop_can (by decide), can_of_nan h1]
    unfold FinW
    decide +kernel
theorem nf_fits {x : Nat} (h : ¬ FinW double x) : Fits .f64 x .f32 := by
  rcases nfk .f64 h with ⟨s, h1⟩ | h1
  · right
    unfold floatToFloatBits
    rw [if_neg (by decide)]
    show (match double.read x with | .nan _ _ => none | .infinity s => some (FloatKind.f32.encode (.infinity s)) | .number s m e => if (FloatKind.f32.decode (FloatKind.f32.encode (.number s m e))).isInfinity then none else some (FloatKind.f32.encode (.number s m e))).isSome = true
    have h1' : double.read x = .infinity s := h1
    rw [h1']
    rfl
  · exact .inl h1
theorem nf_can {x X : Nat} (h : can .f32 x = X) (hX : ¬ FinW single X) : ¬ FinW single x := fun hx => hX (by rw [← h, can_fin (k := .f32) hx]; exact hx)

/-! ## numbers that are finite -/
theorem pw_le (a b c d : Nat) (h : a + b ≤ c + d) : 2 ^ a * 2 ^ b ≤ 2 ^ c * 2 ^ d := by
  rw [← Nat.pow_add, ← Nat.pow_add]
  exact Nat.pow_le_pow_right (by omega) h
theorem max_le : mv single 2139095039 ≤ 2 ^ 277 := by decide +kernel
theorem V_max {g : Nat} (h : FinW single g) : (V single g).natAbs ≤ 2 ^ 277 := by
  have h' : rg single g ≤ 2139095039 := by have := h; unfold FinW at this; rw [inf32] at this; omega
  unfold V
  rw [sg_abs]
  exact Nat.le_trans (mv_mono single h') max_le
theorem prod_le (a b c d X : Nat) (h : X ≤ 2 ^ b) (hs : a + b ≤ c + d) : 2 ^ a * X ≤ 2 ^ c * 2 ^ d := Nat.le_trans (Nat.mul_le_mul_left _ h) (pw_le a b c d hs)
/-- Half of 1, or its opposite. -/
def Half (s : Nat) : Prop := FinW single s ∧ (V single s).natAbs = 2 ^ 148
theorem half_pos : Half 1056964608 := ⟨by unfold FinW; decide +kernel, by decide +kernel⟩
theorem half_neg : Half 3204448256 := ⟨by unfold FinW; decide +kernel, by decide +kernel⟩
theorem half_fin {s g a : Nat} (hs : Half s) (hg : FinW single g) (ha : can .f32 a = fop .mul .f32 s g) : Bs a 127 := by
  obtain ⟨E, hE⟩ : ∃ E, E = 149 + 127 := ⟨_, rfl⟩
  have hb : (V single s * V single g).natAbs ≤ 2 ^ E * 2 ^ 149 := by
    rw [Int.natAbs_mul, hs.2]
    exact prod_le 148 277 E 149 _ (V_max hg) (by omega)
  obtain ⟨r, hr, hrr, _⟩ := mul_rnd single (hi := ps 127) (D := 149) lp32 hs.1 hg (ps_inf (by omega)) (by rw [mv_ps, ← hE]; exact hb)
  have hB := rnd_bs (e := 127) hrr (by omega) (by rw [← hE]; exact hb)
  have e : fop .mul .f32 s g = r := by
    unfold fop
    rw [show floatBits .mul .f32 s g = some r from hr]
    exact can_fin (k := .f32) hB.1
  rw [e] at ha
  by_cases hn : isNaN .f32 a = true
  · rw [can_of_nan hn] at ha
    exact absurd (by rw [ha]; exact hB.1) (nan_nf .f32)
  · rw [can_of_not (by simpa using hn)] at ha
    rw [ha]; exact hB
theorem bs_r {x e : Nat} (h : Bs x e) : nr (r32 x) 0 (two e) := by
  have h2 := h.2
  have hp := two_pos 149
  have e1 : ((V single x).natAbs : Rat) ≤ two (149 + e) := by unfold two; exact_mod_cast h2
  rw [two_add] at e1
  have e3 : ((V single x : Int) : Rat) ≤ ((V single x).natAbs : Rat) := by
    rw [← Rat.intCast_natCast]; exact Rat.intCast_le_intCast.2 (by omega)
  have e4 : -((V single x).natAbs : Rat) ≤ ((V single x : Int) : Rat) := by
    rw [← Rat.intCast_natCast, ← Rat.intCast_neg]; exact Rat.intCast_le_intCast.2 (by omega)
  unfold nr r32
  generalize ((V single x : Int) : Rat) = v at *
  generalize ((V single x).natAbs : Rat) = n at *
  generalize two 149 = P at *
  generalize two e = E at *
  have hi := Rat.le_of_lt (Rat.inv_pos.2 hp)
  have b1 := Rat.mul_le_mul_of_nonneg_right (show v ≤ P * E by grind) hi
  have b2 := Rat.mul_le_mul_of_nonneg_right (show -v ≤ P * E by grind) hi
  have e5 : P * E * P⁻¹ = E := by grind
  rw [e5] at b1 b2
  rw [Rat.div_def]
  constructor <;> grind
theorem sum_le {P Q : Rat} (hP : 0 ≤ P) (hQ : 0 ≤ Q) (h : P * P + Q * Q ≤ 1001 / 1000) : P + Q ≤ 3 / 2 := by
  have h1 : 0 ≤ (P - Q) * (P - Q) := by
    by_cases hs : 0 ≤ P - Q
    · exact Rat.mul_nonneg hs hs
    · have := Rat.mul_nonneg (show 0 ≤ -(P - Q) by grind) (show 0 ≤ -(P - Q) by grind)
      grind
  by_cases hc : P + Q ≤ 3 / 2
  · exact hc
  · exfalso
    have h2 := Rat.mul_nonneg (show 0 ≤ P + Q - 3 / 2 by grind) (show 0 ≤ P + Q + 3 / 2 by grind)
    grind
theorem cross {T x y P Q : Rat} (hT : 0 ≤ T) (hx : nr x 0 T) (hy : nr y 0 T) (hP : 0 ≤ P) (hQ : 0 ≤ Q) (h : P * P + Q * Q ≤ 1001 / 1000) : nr (x * P + y * Q) 0 (3 / 2 * T) ∧ nr (x * P - y * Q) 0 (3 / 2 * T) := by
  have hs := sum_le hP hQ h
  unfold nr at *
  have a1 := Rat.mul_nonneg (show 0 ≤ T - x by grind) hP
  have a2 := Rat.mul_nonneg (show 0 ≤ T + x by grind) hP
  have a3 := Rat.mul_nonneg (show 0 ≤ T - y by grind) hQ
  have a4 := Rat.mul_nonneg (show 0 ≤ T + y by grind) hQ
  have a5 := Rat.mul_nonneg hT (show 0 ≤ 3 / 2 - (P + Q) by grind)
  refine ⟨⟨?_, ?_⟩, ?_, ?_⟩ <;> grind
theorem cross4 {T x y c d : Rat} (hT : 0 ≤ T) (hx : nr x 0 T) (hy : nr y 0 T) (h : c * c + d * d ≤ 1001 / 1000) : nr (x * c + y * d) 0 (3 / 2 * T) ∧ nr (x * c - y * d) 0 (3 / 2 * T) := by
  by_cases hc : 0 ≤ c
  · by_cases hd : 0 ≤ d
    · exact cross hT hx hy hc hd h
    · have := cross hT hx hy hc (show 0 ≤ -d by grind) (by grind)
      unfold nr at *
      refine ⟨⟨?_, ?_⟩, ?_, ?_⟩ <;> grind
  · by_cases hd : 0 ≤ d
    · have := cross hT hx hy (show 0 ≤ -c by grind) hd (by grind)
      unfold nr at *
      refine ⟨⟨?_, ?_⟩, ?_, ?_⟩ <;> grind
    · have := cross hT hx hy (show 0 ≤ -c by grind) (show 0 ≤ -d by grind) (by grind)
      unfold nr at *
      refine ⟨⟨?_, ?_⟩, ?_, ?_⟩ <;> grind
theorem hi_is : mv single 2136997888 = 7 * 2 ^ 274 := by decide +kernel
theorem seven (a b c : Nat) (h : a + b = c) : 7 * 2 ^ a * 2 ^ b = 7 * 2 ^ c := by rw [Nat.mul_assoc, ← Nat.pow_add, h]
/-- What is at most 7/4 of 2 ^ 127 can be narrowed. -/
theorem fits_r {u : Nat} (h : FinW double u) (hr : nr (r64 u) 0 (7 * two 125)) : Fits .f64 u .f32 := by
  have hp := two_pos D64
  have hV : (V double u).natAbs ≤ 7 * 2 ^ (D64 + 125) := by
    unfold nr r64 at hr
    have h3 := Rat.mul_le_mul_of_nonneg_right (show (V double u : Rat) / two D64 ≤ 7 * two 125 by grind) (Rat.le_of_lt hp)
    have h4 := Rat.mul_le_mul_of_nonneg_right (show -((V double u : Rat) / two D64) ≤ 7 * two 125 by grind) (Rat.le_of_lt hp)
    rw [show (V double u : Rat) / two D64 * two D64 = V double u by grind] at h3
    rw [show -((V double u : Rat) / two D64) * two D64 = -(V double u : Rat) by grind] at h4
    have e : (7 * two 125) * two D64 = (((7 * 2 ^ (D64 + 125) : Nat) : Int) : Rat) := by
      rw [show (((7 * 2 ^ (D64 + 125) : Nat) : Int) : Rat) = 7 * two (D64 + 125) by unfold two; push_cast; rfl, two_add]
      grind
    rw [e] at h3 h4
    rw [← Rat.intCast_neg] at h4
    have i1 := Rat.intCast_le_intCast.1 h3
    have i2 := Rat.intCast_le_intCast.1 h4
    generalize 7 * 2 ^ (D64 + 125) = B at *
    omega
  obtain ⟨r, hr, _⟩ := narrow_rnd (hi := 2136997888) h (by rw [inf32]; decide) (by rw [hi_is, seven 274 925 (D64 + 125) rfl]; exact hV)
  exact .inr (by rw [hr]; rfl)
theorem cop_fin {a e : Nat} (h : Bs a e) (he : e ≤ 1000) : cop .f32 a .f64 = wd a := by
  obtain ⟨h1, h2⟩ := wd_in h he
  unfold cop
  rw [h1]
  exact can_fin (k := .f64) h2.1
theorem fop_fin {op : BinOp} {x y r : Nat} (h : floatBits op .f64 x y = some r) (hr : FinW double r) : fop op .f64 x y = r := by
  unfold fop
  rw [h]
  exact can_fin (k := .f64) hr
theorem two_127 : two 127 = 4 * two 125 := by
  rw [show 127 = 2 + 125 from rfl, two_add]; rfl
theorem two_128 : two 128 = 8 * two 125 := by
  rw [show 128 = 3 + 125 from rfl, two_add]; rfl
theorem two_129 : two (128 + 1) = 16 * two 125 := by
  rw [show 128 + 1 = 4 + 125 from rfl, two_add]; rfl
theorem bound_s {u p q P Q T : Rat} (h1 : nr p P (8 * T / 1125899906842624)) (h2 : nr q Q (8 * T / 1125899906842624)) (h3 : nr u (p - q) (16 * T / 1125899906842624)) (hk : nr (P - Q) 0 (3 / 2 * (4 * T))) (hT : 0 < T) : nr u 0 (7 * T) := by
  unfold nr at *
  constructor <;> grind
theorem bound_a {u p q P Q T : Rat} (h1 : nr p P (8 * T / 1125899906842624)) (h2 : nr q Q (8 * T / 1125899906842624)) (h3 : nr u (p + q) (16 * T / 1125899906842624)) (hk : nr (P + Q) 0 (3 / 2 * (4 * T))) (hT : 0 < T) : nr u 0 (7 * T) := by
  unfold nr at *
  constructor <;> grind
theorem fit_fin {a b c d : Nat} (ha : Bs a 127) (hb : Bs b 127) (hc : Bs c 1) (hd : Bs d 1) (hr : r32 c * r32 c + r32 d * r32 d ≤ 1001 / 1000) : Fits .f64 (mw .sub a b c d) .f32 ∧ Fits .f64 (mw .add a b c d) .f32 := by
  obtain ⟨_, A⟩ := wd_in ha (by omega)
  obtain ⟨_, B⟩ := wd_in hb (by omega)
  obtain ⟨_, C⟩ := wd_in hc (by omega)
  obtain ⟨_, D⟩ := wd_in hd (by omega)
  obtain ⟨e1, b1, n1⟩ := mul64 A C (by omega)
  obtain ⟨e2, b2, n2⟩ := mul64 B D (by omega)
  obtain ⟨e3, b3, n3⟩ := sub64 b1 b2 (by omega)
  obtain ⟨e4, b4, n4⟩ := add64 b1 b2 (by omega)
  have hx := bs_r ha
  have hy := bs_r hb
  have hT := Rat.le_of_lt (two_pos 127)
  obtain ⟨k1, k2⟩ := cross4 hT hx hy hr
  rw [(wd_r ha.1).2, (wd_r hc.1).2] at n1
  rw [(wd_r hb.1).2, (wd_r hd.1).2] at n2
  have h50 : two 50 = 1125899906842624 := rfl
  have hp := two_pos 125
  rw [h50] at n1 n2 n3 n4
  rw [show 127 + 1 = 128 from rfl, two_128] at n1 n2
  rw [two_129] at n3 n4
  rw [two_127] at k1 k2
  unfold mw
  rw [cop_fin ha (by omega), cop_fin hb (by omega), cop_fin hc (by omega), cop_fin hd (by omega), fop_fin e1 b1.1, fop_fin e2 b2.1, fop_fin e3 b3.1, fop_fin e4 b4.1]
  exact ⟨fits_r b3.1 (bound_s n1 n2 n3 k2 hp), fits_r b4.1 (bound_a n1 n2 n4 k1 hp)⟩
/-- What a source sends, times a phase. -/
theorem fit_all {s1 s2 g a b : Nat} {n : Int} (h1 : Half s1) (h2 : Half s2) (ha : can .f32 a = fop .mul .f32 s1 g) (hb : can .f32 b = fop .mul .f32 s2 g) (hn : n.natAbs ≤ 524288) :
    Fits .f64 (mw .sub a b (phz n).1 (phz n).2) .f32 ∧ Fits .f64 (mw .add a b (phz n).2 (phz n).1) .f32 := by
  by_cases hg : FinW single g
  · have A := half_fin h1 hg ha
    have B := half_fin h2 hg hb
    obtain ⟨⟨C, D⟩, _⟩ := ph_r n hn
    have ho := (ph_one n hn).1
    exact ⟨(fit_fin A B C D (by grind)).1, (fit_fin A B D C (by grind)).2⟩
  · have A : ¬ FinW single a := nf_can ha (nf_mul_r .f32 s1 hg)
    have A' := nf_wide A
    exact ⟨nf_fits (nf_sub .f64 _ (nf_mul .f64 _ A')), nf_fits (nf_add .f64 _ (nf_mul .f64 _ A'))⟩

end Go.Proofs.Ytpmjheofjmdfeaa.fitsAny
