/- The law on PhasorOf answers true at every 64-bit number. No condition. -/
import Derived.Test.YtfenpbnoikgfnaaRows
import Derived.Test.YtfenpbnoikgfnaaFloats
import Derived.Test.YtfenpbnoikgfnaaRound
import Derived.Test.YtfenpbnoikgfnaaValues
import Derived.Test.YtfenpbnoikgfnaaConv
import Derived.Test.YtfenpbnoikgfnaaFWalk
import Derived.Test.YtfenpbnoikgfnaaFinWalk
import Derived.Test.YtfenpbnoikgfnaaFloat2
import Derived.Test.YtfenpbnoikgfnaaFloat3
import Derived.Test.YtfenpbnoikgfnaaPhase
import Derived.Test.YtfenpbnoikgfnaaSine
import Derived.Test.YtfenpbnoikgfnaaPhasor
import Derived.WalkKit
import Derived.ProofKit
import Derived.OpenShut
import Derived.ShutString
import Derived.ChangeOld
import Derived.Below
import Derived.Lib.Hide
import Derived.BigQuiet
import Derived.Deep.QuietTactic
import Derived.WalkLawsBesides
import Derived.Outline
import Derived.Deep.LoopGhost
namespace Go.Proofs.Ytfenpbnoikgfnaa.phasorOf
open Go.ChangeShapes Go.WideShapes Go.ChangeAt Go.RowKit
open Go.ChangeMaps (open_string shut_string)
set_option linter.unusedVariables false
theorem own : ownKnob Try.prog.godebug = none := by kernel_rfl
theorem laidOut : laidOutB Try.prog = true := by kernel_rfl
open Go Ieee
open Go.Proofs.Ytfenpbnoikgfnaa.floats Go.Proofs.Ytfenpbnoikgfnaa.round Go.Proofs.Ytfenpbnoikgfnaa.values Go.Proofs.Ytfenpbnoikgfnaa.conv Go.Proofs.Ytfenpbnoikgfnaa.fWalk Go.Proofs.Ytfenpbnoikgfnaa.finWalk Go.Proofs.Ytfenpbnoikgfnaa.float2 Go.Proofs.Ytfenpbnoikgfnaa.float3 Go.Proofs.Ytfenpbnoikgfnaa.phase Go.Proofs.Ytfenpbnoikgfnaa.sine Go.Proofs.Ytfenpbnoikgfnaa.phasor

theorem abs_V {x : Nat} (hx : FinW double x) : FinW double (x % 9223372036854775808) ∧ V double (x % 9223372036854775808) = ((V double x).natAbs : Int) := by
  have hx' : x % 9223372036854775808 < 9218868437227405312 := by
    have := hx; unfold FinW rg at this; rw [sw64, inf64] at this; exact this
  have e : rg double (x % 9223372036854775808) = x % 9223372036854775808 := by unfold rg; rw [sw64]; omega
  have e2 : rg double x = x % 9223372036854775808 := by unfold rg; rw [sw64]
  have hf : FinW double (x % 9223372036854775808) := by unfold FinW; rw [e, inf64]; exact hx'
  have hs : sgn double (x % 9223372036854775808) = false := by
    unfold sgn; rw [sw64, Nat.div_eq_of_lt (by omega)]; rfl
  refine ⟨hf, ?_⟩
  show sg (sgn double (x % 9223372036854775808)) (mv double (rg double (x % 9223372036854775808))) = ((sg (sgn double x) (mv double (rg double x))).natAbs : Int)
  rw [hs, e, sg_abs, e2]
  rfl
theorem sub_self_not {x : Nat} (h : ¬ FinW double x) (w : World) : (FloatKind.f64.format.order (fval .sub .f64 w x x) 0 == some .eq) = false := by
  have hb : floatBits .sub .f64 x x = none := by
    rcases kinds64 x with h1 | ⟨s, h1, _⟩ | h1
    · exact absurd h1 h
    · show double.sub x x = none
      unfold Format.sub; rw [h1]; cases s <;> rfl
    · exact floatBits_nan_l h1
  have hn : isNaN .f64 (fval .sub .f64 w x x) = true := by
    unfold fval; rw [hb]; exact nanBits_nan .f64 x x _
  rw [order_nan_l hn]; rfl
theorem cv6432 (w : World) (b : Nat) : (convert 27 28 (.float .f64 b)).run Try.prog w = .ok (.float .f32 (cval .f64 w b .f32)) (w.drewN (ccnt .f64 b .f32)) :=
  run_convff (P := Try.prog) w 27 28 .f64 .f32 b (by rw [Try.underlying27]; rfl) Try.underlying28
theorem ff3264 (w : World) (b : Nat) : (Conv.floatToFloat .f32 b .f64).run Try.prog w = .ok (.float .f64 (cval .f32 w b .f64)) (w.drewN (ccnt .f32 b .f64)) := by
  have h := run_convff (P := Try.prog) w 28 27 .f32 .f64 b (by rw [Try.underlying28]; rfl) Try.underlying27
  simpa [convert, run_underlying Try.underlying28, run_underlying Try.underlying27] using h
theorem cc64128 (w : World) (a b : Nat) : (convert 25 65 (.complex .f32 a b)).run Try.prog w =
    .ok (.complex .f64 (cval .f32 w a .f64) (cval .f32 (w.drewN (ccnt .f32 a .f64)) b .f64)) ((w.drewN (ccnt .f32 a .f64)).drewN (ccnt .f32 b .f64)) := by
  simp [convert, run_underlying Try.underlying25, run_underlying Try.underlying65, Conv.complexToComplex, ff3264]

/-- What both answer, but for the bits of not-a-numbers. -/
def Answers (F : Nat) (x p q : Nat) : Prop :=
  ∀ w : World, Calls Try.prog F #[.float .f64 x] w fun e w' => ∃ a b, e = .returned (.complex .f32 a b) ∧ can .f32 a = p ∧ can .f32 b = q ∧ ∃ n, w.drewN n = w'

theorem nan_const : isNaN .f32 2143289344 = true := by decide +kernel
theorem nan64_const : isNaN .f64 9221120237041090561 = true := by decide +kernel
attribute [local go_sem] c_f64from c_f32from

theorem nan_call (w : World) : Calls Try.prog 47 #[] w fun e w' => e = .returned (.float .f64 9221120237041090561) ∧ w = w' := by
  go_enter Try.func47, Try.ntmps47
  go_wp2
  go_ret
  exact ⟨rfl, rfl⟩
theorem from_call (w : World) : Calls Try.prog 103 #[.int .i64 2143289344] w fun e w' => e = .returned (.float .f32 2143289344) ∧ w = w' := by
  go_enter Try.func103, Try.ntmps103
  go_wp2
  go_ret
  exact ⟨rfl, rfl⟩

set_option maxHeartbeats 400000 in
set_option maxRecDepth 100000 in
theorem none_impl (x : Nat) (hx : (x : Int) ≤ 18446744073709551615) (h : ¬ FinW double x) : Answers 12 x (nan .f32) (nan .f32) := by
  intro w
  have hcv := cv6432
  go_enter Try.func12, Try.ntmps12
  go_wp2_with fail
  refine (fin_no _ _ hx h).mono ?_
  rintro e w' ⟨rfl, rfl⟩
  go_wp2_with fail
  refine (nan_call _).mono ?_
  rintro e w' ⟨rfl, rfl⟩
  go_wp2_with fail
  go_ret
  have hc : can .f32 (cval .f64 w 9221120237041090561 .f32) = nan .f32 := by
    rw [can_cval (.inl nan64_const) (by decide)]
    decide +kernel
  exact ⟨_, _, rfl, hc, hc, _, rfl⟩
set_option maxHeartbeats 400000 in
set_option maxRecDepth 100000 in
theorem none_spec (x : Nat) (h : ¬ FinW double x) : Answers 81 x (nan .f32) (nan .f32) := by
  intro w
  have ho : ∀ w : World, (FloatKind.f64.format.order (fval .sub .f64 w x x) 0 != some .eq) = true := fun w => by rw [bne, sub_self_not h w]; rfl
  have hs := fun w t => run_fsub (P := Try.prog) w t .f64 x x
  go_enter Try.func81, Try.ntmps81
  go_wp2_with fail
  refine (from_call _).mono ?_
  rintro e w' ⟨rfl, rfl⟩
  go_wp2_with fail
  refine (from_call _).mono ?_
  rintro e w' ⟨rfl, rfl⟩
  go_wp2_with fail
  go_ret
  exact ⟨_, _, rfl, can_of_nan nan_const, can_of_nan nan_const, _, rfl⟩

/-- A number that is great. -/
theorem great_impl (x : Nat) (hx : (x : Int) ≤ 18446744073709551615) (h : FinW double x) (h2 : 4503599627370496 * (4 * q64) ≤ (V double x).natAbs) : Answers 12 x (can .f32 1065353216) (can .f32 0) := by
  intro w
  obtain ⟨a1, a2⟩ := abs_V h
  have hoo : FloatKind.f64.format.order (x % 9223372036854775808) 4841369599423283200 = some .gt ∨ FloatKind.f64.format.order (x % 9223372036854775808) 4841369599423283200 = some .eq := by
    rcases Nat.lt_or_eq_of_le h2 with hq | hq
    · exact .inl (gt_is a1 F_52 (by rw [V_52, a2]; omega))
    · exact .inr (eq_is a1 F_52 (by rw [V_52, a2]; omega))
  clear a1 a2 h2
  rcases hoo with ho | ho
  all_goals
    go_enter Try.func12, Try.ntmps12
    go_wp2_with fail
    refine (fin_yes _ _ hx h).mono ?_
    rintro e w' ⟨rfl, rfl⟩
    go_wp2_with fail
    refine (abs_call _ _ hx).mono ?_
    rintro e w' ⟨rfl, rfl⟩
    go_wp2_with fail
    go_ret
    exact ⟨_, _, rfl, rfl, rfl, 0, rfl⟩
theorem great_spec (x : Nat) (h : FinW double x) (h2 : 4503599627370496 * (4 * q64) ≤ (V double x).natAbs) : Answers 81 x (can .f32 1065353216) (can .f32 0) := by
  intro w
  obtain ⟨r0, hr0, ho0⟩ := less_self h
  have hzz := run_ok (P := Try.prog) hr0 rfl
  have hp := q64_pos
  have hoo : (FloatKind.f64.format.order x 4841369599423283200 = some .gt ∨ FloatKind.f64.format.order x 4841369599423283200 = some .eq) ∨
      (FloatKind.f64.format.order x 4841369599423283200 = some .lt ∧ (FloatKind.f64.format.order x 14064741636278059008 = some .lt ∨ FloatKind.f64.format.order x 14064741636278059008 = some .eq)) := by
    by_cases h3 : 4503599627370496 * (4 * (q64 : Int)) ≤ V double x
    · left
      rcases Int.lt_or_eq_of_le h3 with hq | hq
      · exact .inl (gt_is h F_52 (by rw [V_52]; exact hq))
      · exact .inr (eq_is h F_52 (by rw [V_52]; exact hq.symm))
    · right
      refine ⟨lt_is h F_52 (by rw [V_52]; omega), ?_⟩
      have h4 : V double x ≤ -(4503599627370496 * (4 * (q64 : Int))) := by omega
      rcases Int.lt_or_eq_of_le h4 with hq | hq
      · exact .inl (lt_is h F_m52 (by rw [V_m52]; exact hq))
      · exact .inr (eq_is h F_m52 (by rw [V_m52]; exact hq))
  clear h2 h hr0 hp
  rcases hoo with (ho | ho) | ⟨ho, (ho2 | ho2)⟩
  all_goals
    go_enter Try.func81, Try.ntmps81
    go_wp2_with fail
    go_ret
    exact ⟨_, _, rfl, rfl, rfl, 0, rfl⟩

theorem both (x : Nat) (hx : (x : Int) ≤ 18446744073709551615) : ∃ p q : Nat, Answers 12 x p q ∧ Answers 81 x p q := by
  by_cases h : FinW double x
  · by_cases h2 : (V double x).natAbs < 4503599627370496 * (4 * q64)
    · refine ⟨can .f32 (nw (ph64 (fr x)).1), can .f32 (nw (ph64 (fr x)).2), fun w => ?_, fun w => ?_⟩
      · obtain ⟨a1, a2⟩ := abs_V h
        refine (ph_impl x w hx h h2 (lt_is a1 F_52 (by rw [V_52, a2]; omega))).mono ?_
        rintro e w' ⟨rfl, rfl⟩
        exact ⟨_, _, rfl, rfl, rfl, 0, rfl⟩
      · refine (ph_spec x w h h2).mono ?_
        rintro e w' ⟨rfl, rfl⟩
        exact ⟨_, _, rfl, rfl, rfl, 0, rfl⟩
    · exact ⟨_, _, great_impl x hx h (by omega), great_spec x h (by omega)⟩
  · exact ⟨_, _, none_impl x hx h, none_spec x h⟩

theorem same_parts (a b a' b' : Nat) (w : World) (h1 : can .f64 a = can .f64 a') (h2 : can .f64 b = can .f64 b') :
    Calls Try.prog 44 #[.complex .f64 a b, .complex .f64 a' b'] w fun e w' => e = .returned (.bool true) ∧ ∃ n, w.drewN n = w' := by
  have H1 := Lib.hid h1
  have H2 := Lib.hid h2
  clear h1 h2
  go_enter Try.func44, Try.ntmps44
  go_wp2_with fail
  refine (same_float _ _ _ H1.out).mono ?_
  rintro e w' ⟨rfl, n, rfl⟩
  go_wp2_with fail
  refine (same_float _ _ _ H2.out).mono ?_
  rintro e w' ⟨rfl, m, rfl⟩
  go_wp2_with fail
  go_ret
  exact ⟨rfl, _, rfl⟩
theorem below_drewN (w : World) (n : Nat) : Below w.heap.size w (w.drewN n) := ⟨rfl, rfl, rfl, Nat.le_refl _, fun _ _ => rfl⟩
theorem wide_same {a a' : Nat} (h : can .f32 a = can .f32 a') (w w' : World) : can .f64 (cval .f32 w a .f64) = can .f64 (cval .f32 w' a' .f64) := by
  rw [can_cval (wide_fits a) (by decide), can_cval (wide_fits a') (by decide), ← cop_can (by decide), h, cop_can (by decide)]

theorem spec_wrap {x p q : Nat} (h : Answers 81 x p q) : Answers 43 x p q := by
  intro w
  have H := Lib.hid h
  clear h
  go_enter Try.func43, Try.ntmps43
  go_wp2_with fail
  refine (H.out _).mono ?_
  rintro e w' ⟨a, b, rfl, h1, h2, n, rfl⟩
  have H1 := Lib.hid h1
  have H2 := Lib.hid h2
  clear h1 h2
  go_wp2_with fail
  go_ret
  exact ⟨_, _, rfl, H1.out, H2.out, _, rfl⟩

set_option maxHeartbeats 400000 in
set_option maxRecDepth 100000 in
theorem walk (a0 : Nat) (w : World) (w0 : (Lit.float .f64 a0).wf = true) :
    Calls Try.prog 8 #[.float .f64 a0] w fun e w' => e = .returned (.bool true) ∧ Below w.heap.size w w' := by
  have hx : (a0 : Int) ≤ 18446744073709551615 := by
    have : a0 < 2 ^ 64 := by simpa [Lit.wf] using w0
    omega
  obtain ⟨p, q, hi, hs⟩ := both a0 hx
  have HI := Lib.hid hi
  have HS := Lib.hid hs
  have hcc := cc64128
  clear hi hs w0
  go_enter Try.func8, Try.ntmps8
  go_wp2_with fail
  refine (spec_wrap HS.out _).mono ?_
  rintro e w' ⟨a, b, rfl, h1, h2, n, rfl⟩
  have H1 := Lib.hid h1
  have H2 := Lib.hid h2
  clear h1 h2
  go_wp2_with fail
  refine (HI.out _).mono ?_
  rintro e w' ⟨a', b', rfl, h3, h4, m, rfl⟩
  have H3 := Lib.hid (h3.trans H1.out.symm)
  have H4 := Lib.hid (h4.trans H2.out.symm)
  clear h3 h4
  go_wp2_with fail
  refine (same_parts _ _ _ _ _ (wide_same H3.out _ _) (wide_same H4.out _ _)).mono ?_
  rintro e w' ⟨rfl, k, rfl⟩
  go_wp2_with fail
  go_ret
  exact ⟨rfl, below_drewN _ _⟩

set_option maxRecDepth 100000 in
theorem lifted (os : Os) (started : os.Started) (H : Type) (enc : TypeId × Value → H) :
    ReturnsInHanded {} Try.checked os 8 .any (Rows.fnExactPhasorOfSpec.pre6 enc Try.prog Try.f8 Rows.fnExactPhasorOfRow.domain false) (Rows.fnExactPhasorOfSpec.post enc Try.prog Try.f8 false true false false) := by
  refine returnsInHanded_of_change (C := Try.checked) own started (by kernel_rfl) Try.func8
    (ChangeSpec.witness6 (enc := enc) (C := Try.checked) false ⟨#[], #[.float .f64 0], []⟩ 8 (by kernel_rfl) (by kernel_rfl) (by kernel_rfl) (by kernel_rfl)) ?_
  intro W base args ds gs before hval0 hW hcnd _
  have hval : ∀ (j : Nat) t v, Try.f8.params[j]? = some t → args[j]? = some v → Value.okWide Try.prog W .any base t v := hval0
  have hW' := hW
  obtain ⟨p, q, hA0, hV, rfl, hfz, hnd⟩ := hW
  have hA : DataW.TrodAll enc Try.prog W 0 (fun _ => true) true Try.f8.params.toList args.toList ds p := hA0
  rw [Try.params8] at hA hval
  obtain ⟨v0, vs0, d0, ds0, p0, q0, hargs, rfl, rfl, h0, r0⟩ := trodAll_cons hA
  obtain ⟨rfl, rfl, rfl⟩ := trodAll_nil r0
  obtain rfl : args = #[v0] := by cases args; simp_all
  obtain ⟨rfl, rfl⟩ := trodVars_none hV
  obtain ⟨a0, rfl, rfl, rfl, w0⟩ := open_float Try.underlying27 (hval 0 27 v0 rfl rfl) h0
  clear hA0 hval0
  refine (walk a0 W w0).mono fun e W' ⟨he, bel⟩ => ?_
  subst he
  exact ⟨_, rfl, _, _, _, [], _, [], hW', trodAll_mk1 (shut_bool Try.underlying4 _), (trodAll_cons_mk (shut_float Try.underlying27 w0) trodAll_mk0), rfl, bel.frame _, fun h => by cases h⟩

theorem over : Rows.fnExactPhasorOfRow.holds Try.pinned (OpenSpec.ofChange Rows.fnExactPhasorOfSpec) :=
  OpenClaim.holds_of_wide 8 Try.f8 rfl rfl rfl rfl rfl rfl rfl ⟨rfl, rfl, rfl, rfl, rfl⟩ rfl rfl rfl rfl rfl (by kernel_rfl) Try.func8 (by kernel_rfl)
    (of_decide_eq_true (by kernel_rfl)) (by unfold Func.isWrapper; first | (rw [if_pos (by decide +kernel)]; kernel_rfl) | (rw [if_neg (by decide +kernel)]; exact ⟨rfl, rfl⟩))
    (fun os started H enc _ => lifted os started H enc)

theorem proved : Rows.FnExactPhasorOfSaid := over
#print axioms proved
end Go.Proofs.Ytfenpbnoikgfnaa.phasorOf
