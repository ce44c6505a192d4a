/- Lists of complex numbers that are the same but for the bits of not-a-numbers, compared in a law. -/
import Derived.Test.YthlfclnfkgiddaaDoorRows
import Derived.Test.YthlfclnfkgiddaaDoorSlc
import Derived.Test.YthlfclnfkgiddaaDoorFloats
import Derived.Test.YthlfclnfkgiddaaDoorRound
import Derived.Test.YthlfclnfkgiddaaDoorValues
import Derived.Test.YthlfclnfkgiddaaDoorConv
import Derived.Test.YthlfclnfkgiddaaDoorFWalk
import Derived.Test.YthlfclnfkgiddaaDoorFinWalk
import Derived.Test.YthlfclnfkgiddaaDoorFloat2
import Derived.Test.YthlfclnfkgiddaaDoorFloat3
import Derived.Test.YthlfclnfkgiddaaDoorPhase
import Derived.Test.YthlfclnfkgiddaaDoorSine
import Derived.Test.YthlfclnfkgiddaaDoorPhasor
import Derived.Test.YthlfclnfkgiddaaDoorListC
import Derived.WalkKit
import Derived.ProofKit
import Derived.OpenShut
import Derived.ShutString
import Derived.ChangeOld
import Derived.Below
import Derived.Lib.Hide
import Derived.BigQuiet
import Derived.Deep.QuietTactic
import Derived.WalkLawsBesides
import Derived.Outline
import Derived.Deep.QuietTactic
import Derived.BigQuiet
import Derived.Deep.LoopGhost
import Derived.Deep.RegionHeld3
import Derived.Deep.RegionWith
import Derived.Laws.ComplexArith
namespace Go.Proofs.YthlfclnfkgiddaaDoor.listCC
open Go.ChangeShapes Go.WideShapes Go.ChangeAt Go.RowKit
open Go.ChangeMaps (open_string shut_string)
set_option linter.unusedVariables false
open Go Ieee Go.RowKit
open Go.Proofs.YthlfclnfkgiddaaDoor.slc Go.Proofs.YthlfclnfkgiddaaDoor.floats Go.Proofs.YthlfclnfkgiddaaDoor.round Go.Proofs.YthlfclnfkgiddaaDoor.values Go.Proofs.YthlfclnfkgiddaaDoor.conv Go.Proofs.YthlfclnfkgiddaaDoor.fWalk Go.Proofs.YthlfclnfkgiddaaDoor.finWalk Go.Proofs.YthlfclnfkgiddaaDoor.listC

theorem ff_any (a : Nat) (w : World) : (Conv.floatToFloat .f32 a .f64).run Tryd.prog w = .ok (.float .f64 (cval .f32 w a .f64)) (w.drewN (ccnt .f32 a .f64)) := by
  have h1 := run_convff (P := Tryd.prog) w 140 163 .f32 .f64 a (by rw [Tryd.underlying140]; rfl) Tryd.underlying163
  simpa [convert, run_underlying Tryd.underlying140, run_underlying Tryd.underlying163] using h1
theorem cc_any (a b : Nat) (w : World) : (convert 110 162 (.complex .f32 a b)).run Tryd.prog w = .ok (.complex .f64 (cval .f32 w a .f64) (cval .f32 (w.drewN (ccnt .f32 a .f64)) b .f64)) (w.drewN (ccnt .f32 a .f64 + ccnt .f32 b .f64)) := by
  simp [convert, run_underlying Tryd.underlying110, run_underlying Tryd.underlying162, Conv.complexToComplex, ff_any, World.drewN_drewN]
theorem same_x (a b c d : Nat) (w : World) (h1 : can .f64 a = can .f64 c) (h2 : can .f64 b = can .f64 d) :
    Calls Tryd.prog 130 #[.complex .f64 a b, .complex .f64 c d] w fun e w' => e = .returned (.bool true) ∧ w.grownBy w' none := by
  go_enter Tryd.func130, Tryd.ntmps130
  go_wp2_with fail
  refine (same_float _ _ _ h1).mono ?_
  rintro e w' ⟨rfl, n, rfl⟩
  go_wp2_with fail
  refine (same_float _ _ _ h2).mono ?_
  rintro e w' ⟨rfl, m, rfl⟩
  go_wp2_with fail
  go_ret
  exact ⟨rfl, gb_drewN _ _ _⟩
theorem gbD {a b : World} (h : a.grownBy b none) (k : Nat) : a.grownBy (b.drewN k) none := h.trans (gb_drewN _ _ _)
/-- Two lists have the same numbers. -/
def SameL (l m : List (Nat × Nat)) : Prop := l.length = m.length ∧ ∀ j, j < l.length → can .f32 (l.getD j (0, 0)).1 = can .f32 (m.getD j (0, 0)).1 ∧ can .f32 (l.getD j (0, 0)).2 = can .f32 (m.getD j (0, 0)).2
theorem can_wide {a b : Nat} (h : can .f32 a = can .f32 b) (w1 w2 : World) : can .f64 (cval .f32 w1 a .f64) = can .f64 (cval .f32 w2 b .f64) := by
  rw [can_cval (wide_fits _) (by decide), can_cval (wide_fits _) (by decide)]
  rcases can_eq_iff.1 h with h | ⟨h1, h2⟩
  · rw [h]
  · unfold cop
    have e : ∀ x, isNaN .f32 x = true → floatToFloatBits .f32 x .f64 = none := fun x hx => by
      unfold floatToFloatBits
      rw [if_neg (by decide)]
      have h' : (FloatKind.f32.decode x).isNaN = true := hx
      revert h'
      cases FloatKind.f32.decode x <;> simp [Datum.isNaN]
    rw [e a h1, e b h2]
attribute [local go_sem] cc_any
set_option maxHeartbeats 1600000 in
theorem eqC_can (A A' : Option Addr) (c d B : Nat) (l m : List (Nat × Nat)) (w : World) (hn : l.length ≤ 9223372036854775807) (hB : B ≤ w.heap.size) (hs : SameL l m) (ha : Rd w B A l.length (ccell l)) (hb : Rd w B A' m.length (ccell m)) :
    Calls Tryd.prog 88 #[.slice A l.length c, .slice A' m.length d] w fun e w' => e = .returned (.bool true) ∧ w.grownBy w' none := by
  obtain ⟨hlen, hs⟩ := hs
  rw [← hlen] at hb ⊢
  generalize hnn : l.length = n at *
  go_enter Tryd.func88, Tryd.ntmps88
  go_wp2
  go_loopw [5] (fun i wr => ∃ k : Nat, k ≤ n ∧ i = .int .i64 k ∧ w.grownBy wr none) (fun i _ => n - (intOf i).toNat)
  case atStart => exact ⟨0, Nat.zero_le _, rfl, World.grownBy.refl _ _⟩
  case round =>
    obtain ⟨k, hk, rfl, hg⟩ := hrel
    by_cases hlt : k < n
    · obtain ⟨ad, rfl, _, hc0⟩ := (ha.kept0 hg hB).at_ hlt
      obtain ⟨bd, rfl, _, hd0⟩ := (hb.kept0 hg hB).at_ hlt
      obtain ⟨e1, e2⟩ := hs k hlt
      unfold ccell at hc0 hd0
      generalize (l.getD k (0, 0)).1 = x1 at *
      generalize (l.getD k (0, 0)).2 = x2 at *
      generalize (m.getD k (0, 0)).1 = y1 at *
      generalize (m.getD k (0, 0)).2 = y2 at *
      have hk0 : (0 : Int) ≤ k := by omega
      have hk1 : (k : Int) < n := by omega
      have h1 := fun w1 w2 => can_wide e1 w1 w2
      have h2 := fun w1 w2 => can_wide e2 w1 w2
      have H1 := Lib.hid h1
      have H2 := Lib.hid h2
      clear e1 e2 h1 h2 hs hnn hlen
      go_wp2
      go_region_with ((go_at_call 130; refine (same_x _ _ _ _ _ (H1.out _ _) (H2.out _ _)).mono ?_; rintro e w' ⟨rfl, hg5⟩))
      all_goals
        have hfin := (gbD hg _).trans hg5
        go_wp2
        go_roundw
        case rel => exact ⟨k + 1, by omega, by go_num, hfin⟩
        case measure => simp [intOf]; omega
    · go_wp2
      go_ret
      exact ⟨rfl, hg⟩

end Go.Proofs.YthlfclnfkgiddaaDoor.listCC
