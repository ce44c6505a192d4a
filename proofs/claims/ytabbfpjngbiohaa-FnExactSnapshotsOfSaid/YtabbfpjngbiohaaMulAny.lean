/- Products of any complex numbers, by the program and the model, but for the bits of not-a-numbers. -/
import Derived.Test.YtabbfpjngbiohaaRows
import Derived.Test.YtabbfpjngbiohaaSlc
import Derived.Test.YtabbfpjngbiohaaFloats
import Derived.Test.YtabbfpjngbiohaaRound
import Derived.Test.YtabbfpjngbiohaaValues
import Derived.Test.YtabbfpjngbiohaaConv
import Derived.Test.YtabbfpjngbiohaaFWalk
import Derived.WalkKit
import Derived.ProofKit
import Derived.OpenShut
import Derived.ShutString
import Derived.ChangeOld
import Derived.Below
import Derived.Lib.Hide
import Derived.BigQuiet
import Derived.Deep.QuietTactic
import Derived.WalkLawsBesides
import Derived.Outline
import Derived.Deep.QuietTactic
import Derived.BigQuiet
import Derived.Deep.LoopGhost
import Derived.Laws.ComplexArith
namespace Go.Proofs.Ytabbfpjngbiohaa.mulAny
open Go.ChangeShapes Go.WideShapes Go.ChangeAt Go.RowKit
open Go.ChangeMaps (open_string shut_string)
set_option linter.unusedVariables false
open Go Ieee Go.RowKit
open Go.Proofs.Ytabbfpjngbiohaa.slc Go.Proofs.Ytabbfpjngbiohaa.floats Go.Proofs.Ytabbfpjngbiohaa.round Go.Proofs.Ytabbfpjngbiohaa.values Go.Proofs.Ytabbfpjngbiohaa.conv Go.Proofs.Ytabbfpjngbiohaa.fWalk

theorem cv3264 (w : World) (b : Nat) : (convert 29 32 (.float .f32 b)).run Try.prog w = .ok (.float .f64 (cval .f32 w b .f64)) (w.drewN (ccnt .f32 b .f64)) :=
  run_convff w _ _ .f32 .f64 b (by rw [Try.underlying29]; rfl) Try.underlying32
theorem cv6432 (w : World) (b : Nat) : (convert 32 29 (.float .f64 b)).run Try.prog w = .ok (.float .f32 (cval .f64 w b .f32)) (w.drewN (ccnt .f64 b .f32)) :=
  run_convff w _ _ .f64 .f32 b (by rw [Try.underlying32]; rfl) Try.underlying29
theorem run_fmul' (w : World) (t : TypeId) (k : FloatKind) (x y : Nat) : (binOp .mul t (.float k x) (.float k y)).run Try.prog w = .ok (.float k (fval .mul k w x y)) (w.drewN (fcnt .mul k x y)) := run_floatop w .mul t k x y rfl
theorem run_fsub' (w : World) (t : TypeId) (k : FloatKind) (x y : Nat) : (binOp .sub t (.float k x) (.float k y)).run Try.prog w = .ok (.float k (fval .sub k w x y)) (w.drewN (fcnt .sub k x y)) := run_floatop w .sub t k x y rfl
theorem run_fadd' (w : World) (t : TypeId) (k : FloatKind) (x y : Nat) : (binOp .add t (.float k x) (.float k y)).run Try.prog w = .ok (.float k (fval .add k w x y)) (w.drewN (fcnt .add k x y)) := run_floatop w .add t k x y rfl

/-- A part of a product in 64 bits; op: sub or add. -/
def mw (op : BinOp) (a b c d : Nat) : Nat := fop op .f64 (fop .mul .f64 (cop .f32 a .f64) (cop .f32 c .f64)) (fop .mul .f64 (cop .f32 b .f64) (cop .f32 d .f64))
/-- A part of a product. -/
def mp (op : BinOp) (a b c d : Nat) : Nat := cop .f64 (mw op a b c d) .f32
theorem fits_can {u X : Nat} (h : can .f64 u = X) (hf : Fits .f64 X .f32) : Fits .f64 u .f32 := by
  by_cases hn : isNaN .f64 u = true
  · exact .inl hn
  · rw [can_of_not (by simpa using hn)] at h
    subst h
    exact hf
theorem fop_eq (op : BinOp) (k : FloatKind) {x y X Y : Nat} (hx : can k x = X) (hy : can k y = Y) : fop op k x y = fop op k X Y := by rw [← hx, ← hy, fop_can]
theorem mp_can (op : BinOp) {a b a' b' : Nat} (c d : Nat) (ha : can .f32 a = can .f32 a') (hb : can .f32 b = can .f32 b') : mw op a b c d = mw op a' b' c d := by
  unfold mw
  rw [← cop_can (b := a) (by decide), ← cop_can (b := b) (by decide), ha, hb, cop_can (by decide), cop_can (by decide)]

section
attribute [local go_sem] cv3264 cv6432 run_fmul' run_fsub' run_fadd'
theorem widen_a (a b : Nat) (w : World) : Calls Try.prog 94 #[.complex .f32 a b] w fun e w' => ∃ p q, e = .returned (.complex .f64 p q) ∧ can .f64 p = cop .f32 a .f64 ∧ can .f64 q = cop .f32 b .f64 ∧ w.grownBy w' none := by
  go_enter Try.func94, Try.ntmps94
  go_wp2
  go_ret
  exact ⟨_, _, rfl, can_cval (wide_fits _) (by decide), can_cval (wide_fits _) (by decide), gb_drewN _ _ _⟩
theorem times_a (a b c d : Nat) (w : World) : Calls Try.prog 152 #[.complex .f64 a b, .complex .f64 c d] w fun e w' => ∃ p q, e = .returned (.complex .f64 p q) ∧ can .f64 p = fop .sub .f64 (fop .mul .f64 a c) (fop .mul .f64 b d) ∧ can .f64 q = fop .add .f64 (fop .mul .f64 a d) (fop .mul .f64 b c) ∧ w.grownBy w' none := by
  go_enter Try.func152, Try.ntmps152
  go_wp2
  go_ret
  exact ⟨_, _, rfl, (can_fval _ _ _ _ _).trans (fop_eq _ _ (can_fval _ _ _ _ _) (can_fval _ _ _ _ _)), (can_fval _ _ _ _ _).trans (fop_eq _ _ (can_fval _ _ _ _ _) (can_fval _ _ _ _ _)), gb_drewN _ _ _⟩
theorem narrow_a (a b : Nat) (w : World) (ha : Fits .f64 a .f32) (hb : Fits .f64 b .f32) : Calls Try.prog 153 #[.complex .f64 a b] w fun e w' => ∃ p q, e = .returned (.complex .f32 p q) ∧ can .f32 p = cop .f64 a .f32 ∧ can .f32 q = cop .f64 b .f32 ∧ w.grownBy w' none := by
  go_enter Try.func153, Try.ntmps153
  go_wp2
  go_ret
  exact ⟨_, _, rfl, can_cval ha (by decide), can_cval hb (by decide), gb_drewN _ _ _⟩
theorem wide_a (a b : Nat) (w : World) : Calls Try.prog 223 #[.complex .f32 a b] w fun e w' => ∃ p q, e = .returned (.complex .f64 p q) ∧ can .f64 p = cop .f32 a .f64 ∧ can .f64 q = cop .f32 b .f64 ∧ w.grownBy w' none := by
  go_enter Try.func223, Try.ntmps223
  go_wp2
  go_ret
  exact ⟨_, _, rfl, can_cval (wide_fits _) (by decide), can_cval (wide_fits _) (by decide), gb_drewN _ _ _⟩
theorem wmul_a (a b c d : Nat) (w : World) : Calls Try.prog 222 #[.complex .f64 a b, .complex .f64 c d] w fun e w' => ∃ p q, e = .returned (.complex .f64 p q) ∧ can .f64 p = fop .sub .f64 (fop .mul .f64 a c) (fop .mul .f64 b d) ∧ can .f64 q = fop .add .f64 (fop .mul .f64 a d) (fop .mul .f64 b c) ∧ w.grownBy w' none := by
  go_enter Try.func222, Try.ntmps222
  go_wp2
  go_ret
  exact ⟨_, _, rfl, (can_fval _ _ _ _ _).trans (fop_eq _ _ (can_fval _ _ _ _ _) (can_fval _ _ _ _ _)), (can_fval _ _ _ _ _).trans (fop_eq _ _ (can_fval _ _ _ _ _) (can_fval _ _ _ _ _)), gb_drewN _ _ _⟩
theorem nar1_a (a : Nat) (w : World) (ha : Fits .f64 a .f32) : Calls Try.prog 249 #[.float .f64 a] w fun e w' => ∃ p, e = .returned (.float .f32 p) ∧ can .f32 p = cop .f64 a .f32 ∧ w.grownBy w' none := by
  go_enter Try.func249, Try.ntmps249
  go_wp2
  go_ret
  exact ⟨_, rfl, can_cval ha (by decide), gb_drewN _ _ _⟩
end
theorem cnar_a (a b : Nat) (w : World) (ha : Fits .f64 a .f32) (hb : Fits .f64 b .f32) : Calls Try.prog 221 #[.complex .f64 a b] w fun e w' => ∃ p q, e = .returned (.complex .f32 p q) ∧ can .f32 p = cop .f64 a .f32 ∧ can .f32 q = cop .f64 b .f32 ∧ w.grownBy w' none := by
  have HA := Lib.hid ha
  have HB := Lib.hid hb
  clear ha hb
  go_enter Try.func221, Try.ntmps221
  go_wp2_with fail
  refine (nar1_a _ _ HA.out).mono ?_
  rintro e w1 ⟨p, rfl, hp, g1⟩
  have HP := Lib.hid hp
  clear hp
  go_wp2_with fail
  refine (nar1_a _ _ HB.out).mono ?_
  rintro e w2 ⟨q, rfl, hq, g2⟩
  have HQ := Lib.hid hq
  clear hq
  go_wp2_with fail
  go_ret
  exact ⟨p, q, rfl, HP.out, HQ.out, g1.trans g2⟩
theorem fop_mul2 {a b c d a' b' c' d' : Nat} (op : BinOp) (h1 : can .f64 a = a') (h2 : can .f64 b = b') (h3 : can .f64 c = c') (h4 : can .f64 d = d') : fop op .f64 (fop .mul .f64 a c) (fop .mul .f64 b d) = fop op .f64 (fop .mul .f64 a' c') (fop .mul .f64 b' d') := by
  rw [fop_eq .mul .f64 h1 h3, fop_eq .mul .f64 h2 h4]
theorem mul_a (a b c d : Nat) (w : World) (hf : Fits .f64 (mw .sub a b c d) .f32) (hg : Fits .f64 (mw .add a b d c) .f32) :
    Calls Try.prog 70 #[.complex .f32 a b, .complex .f32 c d] w fun e w' => ∃ p q, e = .returned (.complex .f32 p q) ∧ can .f32 p = mp .sub a b c d ∧ can .f32 q = mp .add a b d c ∧ w.grownBy w' none := by
  have HF := Lib.hid hf
  have HG := Lib.hid hg
  clear hf hg
  go_enter Try.func70, Try.ntmps70
  go_wp2_with fail
  refine (widen_a _ _ _).mono ?_
  rintro e w1 ⟨a1, b1, rfl, ha, hb, g1⟩
  have HA := Lib.hid ha
  have HB := Lib.hid hb
  clear ha hb
  go_wp2_with fail
  refine (widen_a _ _ _).mono ?_
  rintro e w2 ⟨c1, d1, rfl, hc, hd, g2⟩
  have HC := Lib.hid hc
  have HD := Lib.hid hd
  clear hc hd
  go_wp2_with fail
  refine (times_a _ _ _ _ _).mono ?_
  rintro e w3 ⟨p, q, rfl, hp, hq, g3⟩
  have HP := Lib.hid (hp.trans (fop_mul2 .sub HA.out HB.out HC.out HD.out) : can .f64 p = mw .sub a b c d)
  have HQ := Lib.hid (hq.trans (fop_mul2 .add HA.out HB.out HD.out HC.out) : can .f64 q = mw .add a b d c)
  clear hp hq
  go_wp2_with fail
  refine (narrow_a _ _ _ (fits_can HP.out HF.out) (fits_can HQ.out HG.out)).mono ?_
  rintro e w4 ⟨r, s, rfl, hr, hs, g4⟩
  have HR := Lib.hid (show can .f32 r = mp .sub a b c d by unfold mp; rw [hr, ← HP.out, cop_can (by decide)])
  have HS := Lib.hid (show can .f32 s = mp .add a b d c by unfold mp; rw [hs, ← HQ.out, cop_can (by decide)])
  clear hr hs
  go_wp2_with fail
  go_ret
  exact ⟨r, s, rfl, HR.out, HS.out, ((g1.trans g2).trans g3).trans g4⟩
theorem mul_b (a b c d : Nat) (w : World) (hf : Fits .f64 (mw .sub a b c d) .f32) (hg : Fits .f64 (mw .add a b d c) .f32) :
    Calls Try.prog 186 #[.complex .f32 a b, .complex .f32 c d] w fun e w' => ∃ p q, e = .returned (.complex .f32 p q) ∧ can .f32 p = mp .sub a b c d ∧ can .f32 q = mp .add a b d c ∧ w.grownBy w' none := by
  have HF := Lib.hid hf
  have HG := Lib.hid hg
  clear hf hg
  go_enter Try.func186, Try.ntmps186
  go_wp2_with fail
  refine (wide_a _ _ _).mono ?_
  rintro e w1 ⟨a1, b1, rfl, ha, hb, g1⟩
  have HA := Lib.hid ha
  have HB := Lib.hid hb
  clear ha hb
  go_wp2_with fail
  refine (wide_a _ _ _).mono ?_
  rintro e w2 ⟨c1, d1, rfl, hc, hd, g2⟩
  have HC := Lib.hid hc
  have HD := Lib.hid hd
  clear hc hd
  go_wp2_with fail
  refine (wmul_a _ _ _ _ _).mono ?_
  rintro e w3 ⟨p, q, rfl, hp, hq, g3⟩
  have HP := Lib.hid (hp.trans (fop_mul2 .sub HA.out HB.out HC.out HD.out) : can .f64 p = mw .sub a b c d)
  have HQ := Lib.hid (hq.trans (fop_mul2 .add HA.out HB.out HD.out HC.out) : can .f64 q = mw .add a b d c)
  clear hp hq
  go_wp2_with fail
  refine (cnar_a _ _ _ (fits_can HP.out HF.out) (fits_can HQ.out HG.out)).mono ?_
  rintro e w4 ⟨r, s, rfl, hr, hs, g4⟩
  have HR := Lib.hid (show can .f32 r = mp .sub a b c d by unfold mp; rw [hr, ← HP.out, cop_can (by decide)])
  have HS := Lib.hid (show can .f32 s = mp .add a b d c by unfold mp; rw [hs, ← HQ.out, cop_can (by decide)])
  clear hr hs
  go_wp2_with fail
  go_ret
  exact ⟨r, s, rfl, HR.out, HS.out, ((g1.trans g2).trans g3).trans g4⟩

end Go.Proofs.Ytabbfpjngbiohaa.mulAny
