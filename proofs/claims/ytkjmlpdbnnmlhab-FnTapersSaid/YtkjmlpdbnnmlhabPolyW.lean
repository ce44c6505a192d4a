/- Products of complex numbers, by the program and by the model. -/
import Derived.Test.YtkjmlpdbnnmlhabRows
import Derived.Test.YtkjmlpdbnnmlhabSlc
import Derived.Test.YtkjmlpdbnnmlhabSmall
import Derived.Test.YtkjmlpdbnnmlhabFloats
import Derived.Test.YtkjmlpdbnnmlhabRound
import Derived.Test.YtkjmlpdbnnmlhabValues
import Derived.Test.YtkjmlpdbnnmlhabConv
import Derived.Test.YtkjmlpdbnnmlhabFWalk
import Derived.Test.YtkjmlpdbnnmlhabFinWalk
import Derived.Test.YtkjmlpdbnnmlhabFloat2
import Derived.Test.YtkjmlpdbnnmlhabFloat3
import Derived.Test.YtkjmlpdbnnmlhabPhase
import Derived.Test.YtkjmlpdbnnmlhabSine
import Derived.Test.YtkjmlpdbnnmlhabPhasor
import Derived.Test.YtkjmlpdbnnmlhabListC
import Derived.Test.YtkjmlpdbnnmlhabSteerNum
import Derived.Test.YtkjmlpdbnnmlhabSineIn
import Derived.Test.YtkjmlpdbnnmlhabPolyNum
import Derived.WalkKit
import Derived.ProofKit
import Derived.OpenShut
import Derived.ShutString
import Derived.ChangeOld
import Derived.Below
import Derived.Lib.Hide
import Derived.BigQuiet
import Derived.Deep.QuietTactic
import Derived.WalkLawsBesides
import Derived.Outline
import Derived.Deep.LoopGhost
import Derived.Deep.QuietTactic
import Derived.BigQuiet
import Derived.Deep.RegionHeld3
import Derived.StillTailTactics
namespace Go.Proofs.Ytkjmlpdbnnmlhab.polyW
open Go.ChangeShapes Go.WideShapes Go.ChangeAt Go.RowKit
open Go.ChangeMaps (open_string shut_string)
set_option linter.unusedVariables false
open Go Ieee Go.RowKit
open Go.Proofs.Ytkjmlpdbnnmlhab.slc Go.Proofs.Ytkjmlpdbnnmlhab.small Go.Proofs.Ytkjmlpdbnnmlhab.floats Go.Proofs.Ytkjmlpdbnnmlhab.round Go.Proofs.Ytkjmlpdbnnmlhab.values Go.Proofs.Ytkjmlpdbnnmlhab.conv Go.Proofs.Ytkjmlpdbnnmlhab.fWalk Go.Proofs.Ytkjmlpdbnnmlhab.phase Go.Proofs.Ytkjmlpdbnnmlhab.sine Go.Proofs.Ytkjmlpdbnnmlhab.phasor Go.Proofs.Ytkjmlpdbnnmlhab.listC Go.Proofs.Ytkjmlpdbnnmlhab.sineIn Go.Proofs.Ytkjmlpdbnnmlhab.polyNum

theorem cvw {a b : Nat} (h : floatToFloatBits .f32 a .f64 = some b) (w : World) : (convert 61 39 (.float .f32 a)).run Try.prog w = .ok (.float .f64 b) w := by
  rw [run_convff (P := Try.prog) w 61 39 .f32 .f64 a (by rw [Try.underlying61]; rfl) Try.underlying39]
  have e1 : cval .f32 w a .f64 = b := by unfold cval; rw [h]
  have e2 : ccnt .f32 a .f64 = 0 := by unfold ccnt; rw [h]; rfl
  rw [e1, e2]; rfl
theorem cvn {a b : Nat} (h : floatToFloatBits .f64 a .f32 = some b) (w : World) : (convert 39 61 (.float .f64 a)).run Try.prog w = .ok (.float .f32 b) w := by
  rw [run_convff (P := Try.prog) w 39 61 .f64 .f32 a (by rw [Try.underlying39]; rfl) Try.underlying61]
  have e1 : cval .f64 w a .f32 = b := by unfold cval; rw [h]
  have e2 : ccnt .f64 a .f32 = 0 := by unfold ccnt; rw [h]; rfl
  rw [e1, e2]; rfl

theorem widen_c {a b c d : Nat} (ha : floatToFloatBits .f32 a .f64 = some c) (hb : floatToFloatBits .f32 b .f64 = some d) (w : World) :
    Calls Try.prog 194 #[.complex .f32 a b] w fun e w' => e = .returned (.complex .f64 c d) ∧ w = w' := by
  have h1 := cvw ha
  have h2 := cvw hb
  clear ha hb
  go_enter Try.func194, Try.ntmps194
  go_wp2
  go_ret
  exact ⟨rfl, rfl⟩
theorem times_c {a b c d p q r s u v : Nat} (h1 : floatBits .mul .f64 a c = some p) (h2 : floatBits .mul .f64 b d = some q) (h3 : floatBits .mul .f64 a d = some r) (h4 : floatBits .mul .f64 b c = some s) (h5 : floatBits .sub .f64 p q = some u) (h6 : floatBits .add .f64 r s = some v) (w : World) :
    Calls Try.prog 210 #[.complex .f64 a b, .complex .f64 c d] w fun e w' => e = .returned (.complex .f64 u v) ∧ w = w' := by
  have r1 := run_ok (P := Try.prog) h1 rfl
  have r2 := run_ok (P := Try.prog) h2 rfl
  have r3 := run_ok (P := Try.prog) h3 rfl
  have r4 := run_ok (P := Try.prog) h4 rfl
  have r5 := run_ok (P := Try.prog) h5 rfl
  have r6 := run_ok (P := Try.prog) h6 rfl
  clear h1 h2 h3 h4 h5 h6
  go_enter Try.func210, Try.ntmps210
  go_wp2
  go_ret
  exact ⟨rfl, rfl⟩
theorem nar_c {a b c d : Nat} (ha : floatToFloatBits .f64 a .f32 = some c) (hb : floatToFloatBits .f64 b .f32 = some d) (w : World) :
    Calls Try.prog 211 #[.complex .f64 a b] w fun e w' => e = .returned (.complex .f32 c d) ∧ w = w' := by
  have h1 := cvn ha
  have h2 := cvn hb
  clear ha hb
  go_enter Try.func211, Try.ntmps211
  go_wp2
  go_ret
  exact ⟨rfl, rfl⟩
theorem mul_impl {x y : Nat × Nat} (h : MulOk x y) (w : World) :
    Calls Try.prog 99 #[.complex .f32 x.1 x.2, .complex .f32 y.1 y.2] w fun e w' => e = .returned (.complex .f32 (mulw x y).1 (mulw x y).2) ∧ w = w' := by
  go_enter Try.func99, Try.ntmps99
  go_wp2_with fail
  refine (widen_c h.a1 h.a2 _).mono ?_
  rintro e w' ⟨rfl, rfl⟩
  go_wp2_with fail
  refine (widen_c h.b1 h.b2 _).mono ?_
  rintro e w' ⟨rfl, rfl⟩
  go_wp2_with fail
  refine (times_c h.p1 h.p2 h.p3 h.p4 h.r h.i _).mono ?_
  rintro e w' ⟨rfl, rfl⟩
  go_wp2_with fail
  refine (nar_c h.n1 h.n2 _).mono ?_
  rintro e w' ⟨rfl, rfl⟩
  go_wp2_with fail
  go_ret
  exact ⟨rfl, rfl⟩

theorem wide_c {a b c d : Nat} (ha : floatToFloatBits .f32 a .f64 = some c) (hb : floatToFloatBits .f32 b .f64 = some d) (w : World) :
    Calls Try.prog 250 #[.complex .f32 a b] w fun e w' => e = .returned (.complex .f64 c d) ∧ w = w' := by
  have h1 := cvw ha
  have h2 := cvw hb
  clear ha hb
  go_enter Try.func250, Try.ntmps250
  go_wp2
  go_ret
  exact ⟨rfl, rfl⟩
theorem wmul_c {a b c d p q r s u v : Nat} (h1 : floatBits .mul .f64 a c = some p) (h2 : floatBits .mul .f64 b d = some q) (h3 : floatBits .mul .f64 a d = some r) (h4 : floatBits .mul .f64 b c = some s) (h5 : floatBits .sub .f64 p q = some u) (h6 : floatBits .add .f64 r s = some v) (w : World) :
    Calls Try.prog 249 #[.complex .f64 a b, .complex .f64 c d] w fun e w' => e = .returned (.complex .f64 u v) ∧ w = w' := by
  have r1 := run_ok (P := Try.prog) h1 rfl
  have r2 := run_ok (P := Try.prog) h2 rfl
  have r3 := run_ok (P := Try.prog) h3 rfl
  have r4 := run_ok (P := Try.prog) h4 rfl
  have r5 := run_ok (P := Try.prog) h5 rfl
  have r6 := run_ok (P := Try.prog) h6 rfl
  clear h1 h2 h3 h4 h5 h6
  go_enter Try.func249, Try.ntmps249
  go_wp2
  go_ret
  exact ⟨rfl, rfl⟩
theorem nar1 {a c : Nat} (ha : floatToFloatBits .f64 a .f32 = some c) (w : World) :
    Calls Try.prog 245 #[.float .f64 a] w fun e w' => e = .returned (.float .f32 c) ∧ w = w' := by
  have h1 := cvn ha
  clear ha
  go_enter Try.func245, Try.ntmps245
  go_wp2
  go_ret
  exact ⟨rfl, rfl⟩
theorem cnar_c {a b c d : Nat} (ha : floatToFloatBits .f64 a .f32 = some c) (hb : floatToFloatBits .f64 b .f32 = some d) (w : World) :
    Calls Try.prog 248 #[.complex .f64 a b] w fun e w' => e = .returned (.complex .f32 c d) ∧ w = w' := by
  go_enter Try.func248, Try.ntmps248
  go_wp2_with fail
  refine (nar1 ha _).mono ?_
  rintro e w' ⟨rfl, rfl⟩
  go_wp2_with fail
  refine (nar1 hb _).mono ?_
  rintro e w' ⟨rfl, rfl⟩
  go_wp2_with fail
  go_ret
  exact ⟨rfl, rfl⟩
theorem mul_spec {x y : Nat × Nat} (h : MulOk x y) (w : World) :
    Calls Try.prog 167 #[.complex .f32 x.1 x.2, .complex .f32 y.1 y.2] w fun e w' => e = .returned (.complex .f32 (mulw x y).1 (mulw x y).2) ∧ w = w' := by
  go_enter Try.func167, Try.ntmps167
  go_wp2_with fail
  refine (wide_c h.a1 h.a2 _).mono ?_
  rintro e w' ⟨rfl, rfl⟩
  go_wp2_with fail
  refine (wide_c h.b1 h.b2 _).mono ?_
  rintro e w' ⟨rfl, rfl⟩
  go_wp2_with fail
  refine (wmul_c h.p1 h.p2 h.p3 h.p4 h.r h.i _).mono ?_
  rintro e w' ⟨rfl, rfl⟩
  go_wp2_with fail
  refine (cnar_c h.n1 h.n2 _).mono ?_
  rintro e w' ⟨rfl, rfl⟩
  go_wp2_with fail
  go_ret
  exact ⟨rfl, rfl⟩

end Go.Proofs.Ytkjmlpdbnnmlhab.polyW
