/- Lists of complex numbers in a law: compared, marked, held. -/
import Derived.Test.YtbefoiikbbjjfaaRows
import Derived.Test.YtbefoiikbbjjfaaSlc
import Derived.Test.YtbefoiikbbjjfaaFloatAll
import Derived.Test.YtbefoiikbbjjfaaFWalk
import Derived.Test.YtbefoiikbbjjfaaFinWalk
import Derived.Test.YtbefoiikbbjjfaaFlAll
import Derived.Test.YtbefoiikbbjjfaaPhasor
import Derived.WalkKit
import Derived.ProofKit
import Derived.OpenShut
import Derived.ShutString
import Derived.ChangeOld
import Derived.Below
import Derived.Lib.Hide
import Derived.BigQuiet
import Derived.Deep.QuietTactic
import Derived.WalkLawsBesides
import Derived.Outline
import Derived.Deep.LoopGhost
import Derived.Deep.RegionHeld3
import Derived.Laws.ComplexArith
namespace Go.Proofs.Ytbefoiikbbjjfaa.listC
open Go.ChangeShapes Go.WideShapes Go.ChangeAt Go.RowKit
open Go.ChangeMaps (open_string shut_string)
set_option linter.unusedVariables false
open Go Ieee Go.RowKit
open Go.Proofs.Ytbefoiikbbjjfaa.slc Go.Proofs.Ytbefoiikbbjjfaa.floats Go.Proofs.Ytbefoiikbbjjfaa.round Go.Proofs.Ytbefoiikbbjjfaa.values Go.Proofs.Ytbefoiikbbjjfaa.conv Go.Proofs.Ytbefoiikbbjjfaa.fWalk Go.Proofs.Ytbefoiikbbjjfaa.finWalk Go.Proofs.Ytbefoiikbbjjfaa.float2 Go.Proofs.Ytbefoiikbbjjfaa.float3 Go.Proofs.Ytbefoiikbbjjfaa.phase Go.Proofs.Ytbefoiikbbjjfaa.sine Go.Proofs.Ytbefoiikbbjjfaa.phasor

theorem infoC : (Try.prog.info? 77).map (fun i => (i.zero, i.size, i.bytes)) = some (some (.complex .f32 0 0), 1, 8) := by kernel_rfl

/-- A 32-bit number widened. -/
def wd (a : Nat) : Nat := (floatToFloatBits .f32 a .f64).getD 0
theorem wd_ok {a : Nat} (h : FinW single a) : floatToFloatBits .f32 a .f64 = some (wd a) ∧ FinW double (wd a) := by
  obtain ⟨r, hr, hrr⟩ := widen_rnd h
  have e : wd a = r := by unfold wd; rw [hr]; rfl
  rw [e]
  exact ⟨hr, hrr.fin⟩
theorem ff_wd {a : Nat} (h : FinW single a) (w : World) : (Conv.floatToFloat .f32 a .f64).run Try.prog w = .ok (.float .f64 (wd a)) w := by
  have h1 := run_convff (P := Try.prog) w 80 62 .f32 .f64 a (by rw [Try.underlying80]; rfl) Try.underlying62
  have e1 : cval .f32 w a .f64 = wd a := by unfold cval; rw [(wd_ok h).1]
  have e2 : ccnt .f32 a .f64 = 0 := by unfold ccnt; rw [(wd_ok h).1]; rfl
  rw [e1, e2] at h1
  simpa [convert, run_underlying Try.underlying80, run_underlying Try.underlying62, World.drewN] using h1
theorem cc_wd {a b : Nat} (ha : FinW single a) (hb : FinW single b) (w : World) : (convert 77 161 (.complex .f32 a b)).run Try.prog w = .ok (.complex .f64 (wd a) (wd b)) w := by
  simp [convert, run_underlying Try.underlying77, run_underlying Try.underlying161, Conv.complexToComplex, ff_wd ha, ff_wd hb]
theorem ff_nw {x : Nat} (h : Bd x (D64 + 34)) (w : World) : (Conv.floatToFloat .f64 x .f32).run Try.prog w = .ok (.float .f32 (nw x)) w := by
  have h1 := run_nw h w
  simpa [convert, run_underlying Try.underlying80, run_underlying Try.underlying62] using h1
theorem nw_one : nw 4607182418800017408 = 1065353216 := by decide +kernel
/-- The number k as a mark. -/
def nm (k : Int) : Nat := nw (floatOfInt .f64 k)
theorem nm_ok (k : Nat) (h : k ≤ 1048576) : Bd (floatOfInt .f64 (k : Int)) (D64 + 34) := by
  have e : floatOfInt .f64 (k : Int) = double.nearest false k 0 := by
    unfold floatOfInt FloatKind.nearest
    have : ¬ ((k : Int) < 0) := by omega
    simp only [this, decide_false, Int.natAbs_natCast]
    rfl
  obtain ⟨f1, f2⟩ := float_int false k (Nat.le_trans h (by decide))
  rw [e]
  refine ⟨f1, ?_⟩
  rw [f2, sg_abs, four_q, Nat.pow_add, Nat.mul_comm]
  exact Nat.mul_le_mul_left _ (Nat.le_trans h (by decide))
theorem cc_nm (k : Nat) (h : k ≤ 1048576) (w : World) : (convert 161 77 (.complex .f64 (floatOfInt .f64 (k : Int)) 4607182418800017408)).run Try.prog w = .ok (.complex .f32 (nm k) 1065353216) w := by
  have h1 := ff_nw (nm_ok k h) w
  have h2 := ff_nw (one_bd.mono (b := D64 + 34) (by omega)) w
  rw [nw_one] at h2
  simp [convert, run_underlying Try.underlying77, run_underlying Try.underlying161, Conv.complexToComplex, h1, h2, nm]

/-- Every cell below n is a finite complex number. -/
def Cpx (f : Nat → Value) (n : Nat) : Prop := ∀ j, j < n → ∃ a b : Nat, f j = .complex .f32 a b ∧ FinW single a ∧ FinW single b
/-- The marks k, k + 1 and so on, each with the imaginary part 1. -/
def mkc (k : Nat) : Nat → Value := fun j => .complex .f32 (nm ((k + j : Nat) : Int)) 1065353216

theorem run_store_complex {P : Program} {w : World} {m : Mode} (a : Addr) (k : FloatKind) (x y : Nat) : (store a (.complex k x y) m).run P w = stored P w a (.complex k x y) m := run_store P w a _ m rfl
attribute [local go_sem] run_store_complex

theorem same_fin : True := trivial

set_option maxHeartbeats 800000 in
set_option maxRecDepth 100000 in
theorem eqC_true : True := trivial

set_option maxHeartbeats 400000 in
set_option maxRecDepth 100000 in
theorem markC : True := trivial

theorem order_fin_self {a : Nat} (h : FinW single a) : (FloatKind.f32.format.order a a == some .eq) = true := by
  rw [order_refl (k := .f32) (fin_not_nan (k := .f32) h)]; rfl
theorem nm_fin (k : Nat) (h : k ≤ 1048576) : FinW single (nm k) := (nw_ok (nm_ok k h)).2
theorem one_fin : FinW single 1065353216 := by unfold FinW; decide +kernel

set_option maxHeartbeats 400000 in
set_option maxRecDepth 100000 in
theorem heldC : True := trivial

theorem markC1 : True := trivial
theorem heldC1 : True := trivial

/-- The cells of a list of complex numbers. -/
def ccell (l : List (Nat × Nat)) (j : Nat) : Value := .complex .f32 (l.getD j (0, 0)).1 (l.getD j (0, 0)).2
def FinL (l : List (Nat × Nat)) : Prop := ∀ p ∈ l, FinW single p.1 ∧ FinW single p.2
theorem FinL.cpx {l : List (Nat × Nat)} (h : FinL l) : Cpx (ccell l) l.length := fun j hj => by
  have := h l[j] (List.getElem_mem hj)
  refine ⟨_, _, rfl, ?_, ?_⟩ <;> simp [List.getD, hj, this]
theorem ccell_snoc (l : List (Nat × Nat)) (a b : Nat) : lst (ccell (l ++ [(a, b)])) (l ++ [(a, b)]).length = lst (ccell l) l.length ++ [.complex .f32 a b] := by
  apply List.ext_getElem?
  intro i
  by_cases h1 : i < l.length
  · rw [List.getElem?_append_left (by rw [lst_len]; exact h1), lst_get _ _ _ h1, lst_get _ _ _ (by simp; omega)]
    simp [ccell, List.getD, List.getElem?_append_left h1]
  · rw [List.getElem?_append_right (by rw [lst_len]; omega), lst_len]
    by_cases h2 : i = l.length
    · subst h2
      rw [lst_get _ _ _ (by simp)]
      simp [ccell]
    · rw [List.getElem?_eq_none (by rw [lst_len]; simp; omega), List.getElem?_eq_none (by simp; omega)]
/-- A function answers with a list of complex numbers of its own, and a bool. -/
def GivesC (F : Nat) (args : Array Value) (l : List (Nat × Nat)) (ok : Bool) : Prop :=
  ∀ w : World, Calls Try.prog F args w fun e w' => ∃ A c, e = .returned (.tuple #[.slice A l.length c, .bool ok]) ∧ w'.ownsRow w.heap.size 77 1 (.slice A l.length c) l.length (lst (ccell l) l.length) ∧ w.grownBy w' none

end Go.Proofs.Ytbefoiikbbjjfaa.listC
