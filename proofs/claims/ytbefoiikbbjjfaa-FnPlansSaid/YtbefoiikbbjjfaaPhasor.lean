/- The point of the unit circle at some turns, by the program and by the model. -/
import Derived.Test.YtbefoiikbbjjfaaRows
import Derived.Test.YtbefoiikbbjjfaaFloatAll
import Derived.Test.YtbefoiikbbjjfaaFWalk
import Derived.Test.YtbefoiikbbjjfaaFinWalk
import Derived.Test.YtbefoiikbbjjfaaFlAll
import Derived.WalkKit
import Derived.ProofKit
import Derived.OpenShut
import Derived.ShutString
import Derived.ChangeOld
import Derived.Below
import Derived.Lib.Hide
import Derived.BigQuiet
import Derived.Deep.QuietTactic
import Derived.WalkLawsBesides
import Derived.Outline
import Derived.Deep.LoopGhost
namespace Go.Proofs.Ytbefoiikbbjjfaa.phasor
open Go.ChangeShapes Go.WideShapes Go.ChangeAt Go.RowKit
open Go.ChangeMaps (open_string shut_string)
set_option linter.unusedVariables false
open Go Ieee
open Go.Proofs.Ytbefoiikbbjjfaa.floats Go.Proofs.Ytbefoiikbbjjfaa.round Go.Proofs.Ytbefoiikbbjjfaa.values Go.Proofs.Ytbefoiikbbjjfaa.conv Go.Proofs.Ytbefoiikbbjjfaa.fWalk Go.Proofs.Ytbefoiikbbjjfaa.finWalk Go.Proofs.Ytbefoiikbbjjfaa.float2 Go.Proofs.Ytbefoiikbbjjfaa.float3 Go.Proofs.Ytbefoiikbbjjfaa.phase Go.Proofs.Ytbefoiikbbjjfaa.sine

/-- A quarter less, as long as there is one: how often, and what is left. -/
def qs (f : Nat) : Nat := bv .sub f 4598175219545276416
def qrun : Nat → Nat → Nat → Nat × Nat
  | 0, j, f => (j, f)
  | n + 1, j, f => if (q64 : Int) ≤ V double f then qrun n (j + 1) (qs f) else (j, f)
/-- What is left without the whole part. -/
def fr0 (x : Nat) : Nat := bv .sub x (floatOfInt .f64 (((double.read x).toInt .zero).getD 0))
def fr (x : Nat) : Nat := if V double (fr0 x) < 0 then bv .add (fr0 x) 4607182418800017408 else fr0 x
/-- Cosine and sine, turned by quarters. -/
def turned (j c s : Nat) : Nat × Nat :=
  if j = 1 then (bv .sub 0 s, c) else if j = 2 then (bv .sub 0 c, bv .sub 0 s) else if j = 3 then (s, bv .sub 0 c) else (c, s)
def nw (x : Nat) : Nat := (floatToFloatBits .f64 x .f32).getD 0
def cosine (f : Nat) : Nat := sn (bv .sub 4598175219545276416 f)
def ph64 (f : Nat) : Nat × Nat := turned (qrun 5 0 f).1 (cosine (qrun 5 0 f).2) (sn (qrun 5 0 f).2)
def phR (x : Nat) : Nat × Nat := if 4503599627370496 * (4 * q64) ≤ (V double x).natAbs then (1065353216, 0) else (nw (ph64 (fr x)).1, nw (ph64 (fr x)).2)

/-- A finite word with bounds in quarters. -/
structure In4 (f k : Nat) : Prop where
  fin : FinW double f
  lt : f < 2 * double.signWeight
  lo : 0 ≤ V double f
  hi : V double f ≤ (k : Int) * (q64 : Int)

theorem fr_ok {x : Nat} (h : FinW double x) (h2 : (V double x).natAbs < 4503599627370496 * (4 * q64)) :
    ∃ n : Int, (double.read x).toInt .zero = some n ∧ -9223372036854775808 ≤ n ∧ n ≤ 9223372036854775807 ∧ floatBits .sub .f64 x (floatOfInt .f64 n) = some (fr0 x) ∧ FinW double (fr0 x) ∧
      (V double (fr0 x) < 0 → floatBits .add .f64 (fr0 x) 4607182418800017408 = some (fr x)) ∧ (¬ V double (fr0 x) < 0 → fr x = fr0 x) ∧ In4 (fr x) 4 := by
  obtain ⟨n, r, hn, n1, n2, hr, hf, b1, b2⟩ := frac0 h h2
  obtain ⟨_, _, _, _, hfn, _⟩ := whole h h2
  have e0 : fr0 x = r := by unfold fr0 bv floatOfInt; rw [hn]; simp only [Option.getD_some]; rw [hr]; rfl
  obtain ⟨n', hn', _, _, hfn, _⟩ := whole h h2
  obtain rfl : n = n' := by rw [hn] at hn'; injection hn'
  refine ⟨n, hn, n1, n2, by rw [e0]; exact hr, by rw [e0]; exact hf, fun hneg => ?_, fun hneg => by unfold fr; rw [if_neg hneg], ?_⟩
  · rw [e0] at hneg
    obtain ⟨s, hs, _⟩ := plus_one hf b1 (by omega)
    have : fr x = s := by unfold fr; rw [e0, if_pos hneg]; unfold bv; rw [hs]; rfl
    rw [this, e0]; exact hs
  · by_cases hneg : V double r < 0
    · obtain ⟨s, hs, fs, s1, s2⟩ := plus_one hf b1 (by omega)
      have : fr x = s := by unfold fr; rw [e0, if_pos hneg]; unfold bv; rw [hs]; rfl
      rw [this]
      exact ⟨fs, add_lt hf F_one hs, s1, s2⟩
    · have : fr x = r := by unfold fr; rw [e0, if_neg hneg]
      rw [this]
      exact ⟨hf, sub_lt h hfn hr, by omega, b2⟩
theorem qs_ok {f k : Nat} (h : In4 f (k + 1)) (hk : k < 4) (h1 : (q64 : Int) ≤ V double f) : floatBits .sub .f64 f 4598175219545276416 = some (qs f) ∧ In4 (qs f) k := by
  obtain ⟨r, hr, hf, r1, r2⟩ := quarter_less h.fin (by omega) h1 h.hi
  obtain ⟨e1, e2⟩ := bv_some hr
  refine ⟨e1, ?_⟩
  unfold qs
  rw [e2]
  have e3 : (((k + 1 : Nat) : Int) - 1) = (k : Int) := by omega
  rw [e3] at r2
  exact ⟨hf, sub_lt h.fin F_quarter hr, r1, r2⟩
theorem In4.small {f : Nat} (h : In4 f 0) : ¬ (q64 : Int) ≤ V double f := by
  have h4 := q64_pos
  have h3 := h.hi
  simp at h3
  omega
theorem In4.bd {f : Nat} (h : In4 f 1) : Bd f (D64 - 2) := ⟨h.fin, by rw [← q64_E]; have := h.hi; have := h.lo; simp at *; omega⟩
theorem cos_ok {f : Nat} (h : In4 f 1) : floatBits .sub .f64 4598175219545276416 f = some (bv .sub 4598175219545276416 f) ∧ In4 (bv .sub 4598175219545276416 f) 1 := by
  obtain ⟨r, hr, hf, r1, r2⟩ := to_quarter h.fin h.lo (by have := h.hi; simpa using this)
  obtain ⟨e1, e2⟩ := bv_some hr
  refine ⟨e1, ?_⟩
  rw [e2]
  exact ⟨hf, sub_lt F_quarter h.fin hr, r1, by simpa using r2⟩
theorem zero_bd (e : Nat) : Bd 0 e := ⟨F_zero, by rw [V_zero]; simp⟩
theorem neg_ok {x : Nat} (h : Bd x (D64 + 33)) : floatBits .sub .f64 0 x = some (bv .sub 0 x) ∧ Bd (bv .sub 0 x) (D64 + 34) := by
  obtain ⟨r, hr, hb, _⟩ := bd_sub (zero_bd (D64 + 33)) h (by rw [D64_is]; decide) (by rw [D64_is]; decide)
  obtain ⟨e1, e2⟩ := bv_some hr
  exact ⟨e1, by rw [e2]; exact hb⟩
theorem pw32 : mv single (161 * 2 ^ 23) * 2 ^ 925 = 2 ^ (D64 + 34) := by decide +kernel
theorem nw_ok {x : Nat} (h : Bd x (D64 + 34)) : floatToFloatBits .f64 x .f32 = some (nw x) ∧ FinW single (nw x) := by
  obtain ⟨r, hr, hrr⟩ := narrow_rnd h.1 (hi := 161 * 2 ^ 23) (by rw [inf32]; decide) (by rw [pw32]; exact h.2)
  have e : nw x = r := by unfold nw; rw [hr]; rfl
  rw [e]
  exact ⟨hr, hrr.fin⟩
theorem run_nw {x : Nat} (h : Bd x (D64 + 34)) (w : World) : (convert 62 80 (.float .f64 x)).run Try.prog w = .ok (.float .f32 (nw x)) w := by
  have hr := (nw_ok h).1
  rw [run_convff (P := Try.prog) w 62 80 .f64 .f32 x (by rw [Try.underlying62]; rfl) Try.underlying80]
  have e1 : cval .f64 w x .f32 = nw x := by unfold cval; rw [hr]
  have e2 : ccnt .f64 x .f32 = 0 := by unfold ccnt; rw [hr]; rfl
  rw [e1, e2]; rfl

theorem narrow_c (a b : Nat) (w : World) (ha : Bd a (D64 + 34)) (hb : Bd b (D64 + 34)) :
    Calls Try.prog 178 #[.complex .f64 a b] w fun e w' => e = .returned (.complex .f32 (nw a) (nw b)) ∧ w = w' := by
  have h1 := run_nw ha
  have h2 := run_nw hb
  clear ha hb
  go_enter Try.func178, Try.ntmps178
  go_wp2
  go_ret
  exact ⟨rfl, rfl⟩

theorem narrow1 (a : Nat) (w : World) (ha : Bd a (D64 + 34)) :
    Calls Try.prog 188 #[.float .f64 a] w fun e w' => e = .returned (.float .f32 (nw a)) ∧ w = w' := by
  have h1 := run_nw ha
  clear ha
  go_enter Try.func188, Try.ntmps188
  go_wp2
  go_ret
  exact ⟨rfl, rfl⟩

set_option maxHeartbeats 400000 in
theorem frac_impl (x : Nat) (w : World) (h : FinW double x) (h2 : (V double x).natAbs < 4503599627370496 * (4 * q64)) :
    Calls Try.prog 176 #[.float .f64 x] w fun e w' => e = .returned (.float .f64 (fr x)) ∧ w = w' := by
  obtain ⟨n, hn, n1, n2, hr, hf, ha, hb, _⟩ := fr_ok h h2
  have hcv := conv_ok hn n1 n2
  have hsub := run_ok (P := Try.prog) hr rfl
  by_cases hneg : V double (fr0 x) < 0
  · have ho := lt_is hf F_zero (by rw [V_zero]; exact hneg)
    have hadd := run_ok (P := Try.prog) (ha hneg) rfl
    clear ha hb hr h2 h hn hf hneg
    go_enter Try.func176, Try.ntmps176
    go_wp2
    go_ret
    exact ⟨rfl, rfl⟩
  · have ho := lt_no hf F_zero (by rw [V_zero]; omega)
    have he := hb hneg
    have HE := Lib.hid he
    clear ha hb hr h2 h hn hf hneg he
    go_enter Try.func176, Try.ntmps176
    go_wp2
    go_ret
    exact ⟨by rw [HE.out]; rfl, rfl⟩

set_option maxHeartbeats 1000000 in
set_option maxRecDepth 100000 in
theorem ph_impl (x : Nat) (w : World) (hx : (x : Int) ≤ 18446744073709551615) (h : FinW double x) (h2 : (V double x).natAbs < 4503599627370496 * (4 * q64))
    (hb : (FloatKind.f64.format.order (x % 9223372036854775808) 4841369599423283200) = some .lt) :
    Calls Try.prog 115 #[.float .f64 x] w fun e w' => e = .returned (.complex .f32 (nw (ph64 (fr x)).1) (nw (ph64 (fr x)).2)) ∧ w = w' := by
  obtain ⟨_, _, _, _, _, _, _, _, hi4⟩ := fr_ok h h2
  have HF := Lib.hid h
  have H2 := Lib.hid h2
  clear h h2
  go_enter Try.func115, Try.ntmps115
  go_wp2_with fail
  refine (fin_yes _ _ hx HF.out).mono ?_
  rintro e w' ⟨rfl, rfl⟩
  go_wp2_with fail
  refine (abs_call _ _ hx).mono ?_
  rintro e w' ⟨rfl, rfl⟩
  go_wp2_with fail
  refine (frac_impl _ _ HF.out H2.out).mono ?_
  rintro e w' ⟨rfl, rfl⟩
  go_wp2_with fail
  go_loop [4, 5] (fun f q => ∃ (j g : Nat), j ≤ 4 ∧ f = .float .f64 g ∧ q = .int .i64 j ∧ In4 g (4 - j) ∧ qrun (5 - j) j g = qrun 5 0 (fr x)) (fun _ q => (4 - intOf q).toNat)
  case atStart => exact ⟨0, _, Nat.zero_le _, rfl, rfl, hi4, rfl⟩
  case round =>
    obtain ⟨j, g, hj, rfl, rfl, hg, hrun⟩ := hrel
    by_cases hge : (q64 : Int) ≤ V double g
    · have hj4 : j < 4 := by
        rcases Nat.lt_or_ge j 4 with hlt | hle
        · exact hlt
        · exfalso
          have : j = 4 := by omega
          subst this
          exact hg.small hge
      have hg' : In4 g ((3 - j) + 1) := by rw [show 3 - j + 1 = 4 - j by omega]; exact hg
      obtain ⟨a1, a2⟩ := qs_ok hg' (by omega) hge
      have hsub := run_ok (P := Try.prog) a1 rfl
      have hrun' : qrun (4 - j) (j + 1) (qs g) = qrun 5 0 (fr x) := by
        rw [← hrun, show 5 - j = (4 - j) + 1 by omega]
        simp [qrun, hge]
      have hoo : FloatKind.f64.format.order g 4598175219545276416 = some .gt ∨ FloatKind.f64.format.order g 4598175219545276416 = some .eq := by
        rcases Int.lt_or_eq_of_le hge with hq | hq
        · exact .inl (gt_is hg.fin F_quarter (by rw [V_quarter]; exact hq))
        · exact .inr (eq_is hg.fin F_quarter (by rw [V_quarter]; exact hq.symm))
      clear a1 hrun hge hg'
      have HR := Lib.hid hrun'
      clear hrun'
      rcases hoo with ho | ho
      all_goals
        go_wp2_with fail
        go_round
        case rel => exact ⟨j + 1, qs g, by omega, rfl, by go_num, by rw [show 4 - (j + 1) = 3 - j by omega]; exact a2, by rw [show 5 - (j + 1) = 4 - j by omega]; exact HR.out⟩
        case measure => simp [intOf]; omega
    · have hR : qrun 5 0 (fr x) = (j, g) := by
        rw [← hrun, show 5 - j = (4 - j) + 1 by omega]
        simp [qrun, hge]
      have h1 : In4 g 1 := ⟨hg.fin, hg.lt, hg.lo, by omega⟩
      obtain ⟨c1, c2⟩ := cos_ok h1
      have hcs := run_ok (P := Try.prog) c1 rfl
      have ho := lt_is hg.fin F_quarter (by rw [V_quarter]; omega)
      obtain ⟨_, s2⟩ := sn_ok h1.bd
      obtain ⟨_, s4⟩ := sn_ok c2.bd
      obtain ⟨n1, n2⟩ := neg_ok s2
      obtain ⟨n3, n4⟩ := neg_ok s4
      have hn1 := run_ok (P := Try.prog) n1 rfl
      have hn3 := run_ok (P := Try.prog) n3 rfl
      have w1 := run_nw (s2.mono (b := D64 + 34) (by omega))
      have w2 := run_nw (s4.mono (b := D64 + 34) (by omega))
      have w3 := run_nw n2
      have w4 := run_nw n4
      have hres : ph64 (fr x) = turned j (sn (bv .sub 4598175219545276416 g)) (sn g) := by unfold ph64 cosine; rw [hR]
      have HH := Lib.hid hres
      clear hres hR hrun c1 n1 n3
      obtain rfl | rfl | rfl | rfl | rfl : j = 0 ∨ j = 1 ∨ j = 2 ∨ j = 3 ∨ j = 4 := by omega
      all_goals
        go_wp2_with fail
        refine (sine_impl _ _ c2.bd).mono ?_
        rintro e w' ⟨rfl, rfl⟩
        go_wp2_with fail
        refine (sine_impl _ _ h1.bd).mono ?_
        rintro e w' ⟨rfl, rfl⟩
        go_wp2_with fail
        refine (narrow_c _ _ _ (by first | exact n2 | exact n4 | exact s2.mono (by omega) | exact s4.mono (by omega)) (by first | exact n2 | exact n4 | exact s2.mono (by omega) | exact s4.mono (by omega))).mono ?_
        rintro e w' ⟨rfl, rfl⟩
        go_wp2_with fail
        go_ret
        exact ⟨by rw [HH.out]; rfl, rfl⟩

set_option maxHeartbeats 1000000 in
set_option maxRecDepth 100000 in
theorem ph_spec : True := trivial

theorem abs_V {x : Nat} (hx : FinW double x) : FinW double (x % 9223372036854775808) ∧ V double (x % 9223372036854775808) = ((V double x).natAbs : Int) := by
  have hx' : x % 9223372036854775808 < 9218868437227405312 := by
    have := hx; unfold FinW rg at this; rw [sw64, inf64] at this; exact this
  have e : rg double (x % 9223372036854775808) = x % 9223372036854775808 := by unfold rg; rw [sw64]; omega
  have e2 : rg double x = x % 9223372036854775808 := by unfold rg; rw [sw64]
  have hf : FinW double (x % 9223372036854775808) := by unfold FinW; rw [e, inf64]; exact hx'
  have hs : sgn double (x % 9223372036854775808) = false := by
    unfold sgn; rw [sw64, Nat.div_eq_of_lt (by omega)]; rfl
  refine ⟨hf, ?_⟩
  show sg (sgn double (x % 9223372036854775808)) (mv double (rg double (x % 9223372036854775808))) = ((sg (sgn double x) (mv double (rg double x))).natAbs : Int)
  rw [hs, e, sg_abs, e2]
  rfl

end Go.Proofs.Ytbefoiikbbjjfaa.phasor
