/- How many values are great, by the program and by the model. -/
import Derived.Test.YtpeclgfopincbaaRows
import Derived.Test.YtpeclgfopincbaaSlc
import Derived.Test.YtpeclgfopincbaaSmall
import Derived.Test.YtpeclgfopincbaaFloats
import Derived.Test.YtpeclgfopincbaaRound
import Derived.Test.YtpeclgfopincbaaValues
import Derived.Test.YtpeclgfopincbaaConv
import Derived.Test.YtpeclgfopincbaaFWalk
import Derived.Test.YtpeclgfopincbaaCut
import Derived.Test.YtpeclgfopincbaaListF
import Derived.WalkKit
import Derived.ProofKit
import Derived.OpenShut
import Derived.ShutString
import Derived.ChangeOld
import Derived.Below
import Derived.Lib.Hide
import Derived.BigQuiet
import Derived.Deep.QuietTactic
import Derived.WalkLawsBesides
import Derived.Outline
import Derived.Deep.RegionWith
import Derived.Deep.QuietTactic
import Derived.BigQuiet
import Derived.Deep.LoopGhost
import Derived.Laws.Cover2
namespace Go.Proofs.Ytpeclgfopincbaa.count
open Go.ChangeShapes Go.WideShapes Go.ChangeAt Go.RowKit
open Go.ChangeMaps (open_string shut_string)
set_option linter.unusedVariables false
open Go Ieee Go.RowKit
open Go.Proofs.Ytpeclgfopincbaa.slc Go.Proofs.Ytpeclgfopincbaa.small Go.Proofs.Ytpeclgfopincbaa.floats Go.Proofs.Ytpeclgfopincbaa.round Go.Proofs.Ytpeclgfopincbaa.values Go.Proofs.Ytpeclgfopincbaa.conv Go.Proofs.Ytpeclgfopincbaa.fWalk Go.Proofs.Ytpeclgfopincbaa.cut Go.Proofs.Ytpeclgfopincbaa.listF

def one32 : Nat := 1065353216
def max32 : Nat := 2139095039
theorem one_fin : FinW single one32 := by unfold FinW rg one32; rw [sw32, inf32]; decide
theorem max_fin : FinW single max32 := by unfold FinW rg max32; rw [sw32, inf32]; decide
theorem sub_zero {x : Nat} (h : FinW single x) (w : World) : (FloatKind.f32.format.order (fval .sub .f32 w x x) 0 == some .eq) = true := by
  obtain ⟨r, hr, hrr⟩ := sub_rnd single h h (hi := 0) (by rw [inf32]; decide) (by simp)
  have e : fval .sub .f32 w x x = r := by unfold fval floatBits; rw [fmt32, hr]
  have hz : FinW single 0 := by unfold FinW rg; rw [sw32, inf32]; decide
  have v0 : V single 0 = 0 := by decide +kernel
  have h1 := hrr.le 0 hz (by rw [v0]; simp)
  have h2 := hrr.ge 0 hz (by rw [v0]; simp)
  rw [v0] at h1 h2
  have hv : V single r = 0 := by omega
  rw [e]
  show (single.order r 0 == _) = true
  rw [order_fin single hrr.fin hz, hv, v0]; rfl
theorem sub_not {x : Nat} (h : ¬ FinW single x) (w : World) : (FloatKind.f32.format.order (fval .sub .f32 w x x) 0 == some .eq) = false := by
  have hb : floatBits .sub .f32 x x = none := by
    rcases kinds32 x with h1 | ⟨s, h1, _⟩ | h1
    · exact absurd h1 h
    · show single.sub x x = none
      unfold Format.sub; rw [h1]; cases s <;> rfl
    · exact floatBits_nan_l h1
  have hn : isNaN .f32 (fval .sub .f32 w x x) = true := by
    unfold fval; rw [hb]; exact nanBits_nan .f32 x x _
  rw [order_nan_l hn]; rfl
/-- A ratio: finite, at least 1. -/
def okr (q : Nat) : Bool := decide (rg single q < single.infRung) && (FloatKind.f32.format.order q one32 == some .gt || FloatKind.f32.format.order q one32 == some .eq)
theorem max_le {q : Nat} (h : FinW single q) : FloatKind.f32.format.order q max32 = some .lt ∨ FloatKind.f32.format.order q max32 = some .eq := by
  have h1 := order_fin single h max_fin
  have h2 : V single q ≤ V single max32 := by
    have e : V single max32 = mv single max32 := by decide +kernel
    have hq : mv single (rg single q) ≤ mv single max32 := mv_mono single (by unfold FinW at h; rw [inf32] at h; unfold max32; omega)
    rw [e]
    unfold V sg
    split <;> omega
  rw [show FloatKind.f32.format = single from rfl, h1]
  rcases Int.lt_or_eq_of_le h2 with h3 | h3
  · exact .inl (by rw [Int.compare_eq_lt.2 h3])
  · exact .inr (by rw [h3]; simp)
theorem inf_max {q : Nat} (h : single.read q = .infinity false) : FloatKind.f32.format.order q max32 = some .gt := by
  show (single.read q).order (single.read max32) = _
  rw [h]
  have : ∃ m e, single.read max32 = .number false m e := ⟨_, _, by rfl⟩
  obtain ⟨m, e, he⟩ := this
  rw [he]; rfl
theorem inf_one {q : Nat} (h : single.read q = .infinity true) : FloatKind.f32.format.order q one32 = some .lt := by
  show (single.read q).order (single.read one32) = _
  rw [h]
  have : ∃ m e, single.read one32 = .number false m e := ⟨_, _, by rfl⟩
  obtain ⟨m, e, he⟩ := this
  rw [he]; rfl
theorem okr_fin {q : Nat} (h : okr q = true) : FinW single q := by
  unfold okr at h
  rw [Bool.and_eq_true] at h
  exact show rg single q < single.infRung from of_decide_eq_true h.1
theorem okr_one {q : Nat} (h : okr q = true) : FloatKind.f32.format.order q one32 = some .gt ∨ FloatKind.f32.format.order q one32 = some .eq := by
  unfold okr at h
  rw [Bool.and_eq_true, Bool.or_eq_true] at h
  rcases h.2 with h | h
  · exact .inl (eq_of_beq h)
  · exact .inr (eq_of_beq h)
theorem fin_order {q : Nat} (h : FinW single q) : ∃ o, FloatKind.f32.format.order q one32 = some o := ⟨_, order_fin single h one_fin⟩
/-- What is no ratio: less than 1, a not-a-number, or an infinity. -/
theorem okr_no {q : Nat} (h : okr q = false) : FloatKind.f32.format.order q one32 = none ∧ ¬ FinW single q ∨ FloatKind.f32.format.order q one32 = some .lt ∨ (FloatKind.f32.format.order q one32 = some .gt ∧ FloatKind.f32.format.order q max32 = some .gt ∧ ¬ FinW single q) := by
  by_cases hf : FinW single q
  · obtain ⟨o, ho⟩ := fin_order hf
    unfold okr at h
    rw [show decide (rg single q < single.infRung) = true from decide_eq_true hf, ho] at h
    cases o
    · exact .inr (.inl ho)
    · cases h
    · cases h
  · rcases kinds32 q with h1 | ⟨s, h1, _⟩ | h1
    · exact absurd h1 hf
    · cases s
      · refine .inr (.inr ⟨?_, inf_max h1, hf⟩)
        show (single.read q).order (single.read one32) = _
        rw [h1]
        obtain ⟨m, e, he⟩ : ∃ m e, single.read one32 = .number false m e := ⟨_, _, by rfl⟩
        rw [he]; rfl
      · exact .inr (.inl (inf_one h1))
    · exact .inl ⟨order_nan_l h1, hf⟩

/-- The greatest index, at most k, of a number behind a great one. -/
def cnt (x : Nat → Nat) (q : Nat) : Nat → Nat
  | 0 => 0
  | k + 1 => if FloatKind.f32.format.order (x k) (fop .mul .f32 q (x (k + 1))) = some .gt then k + 1 else cnt x q k
theorem cnt_succ (x : Nat → Nat) (q k : Nat) : cnt x q (k + 1) = if FloatKind.f32.format.order (x k) (fop .mul .f32 q (x (k + 1))) = some .gt then k + 1 else cnt x q k := rfl
def cntR (x : Nat → Nat) (q n : Nat) : Int × Bool := if 1 ≤ n ∧ n ≤ 8 ∧ okr q = true then (cnt x q (n - 1), true) else (0, false)
theorem ord_f (a q b : Nat) (w : World) : FloatKind.f32.format.order a (fval .mul .f32 w q b) = FloatKind.f32.format.order a (fop .mul .f32 q b) := by
  rw [← can_fval .mul .f32 w q b, order_can_r]

theorem lfin_c (x : Nat) (w : World) (b : Bool) (hb : ∀ w, (FloatKind.f32.format.order (fval .sub .f32 w x x) 0 == some .eq) = b) :
    Calls Try.prog 119 #[.float .f32 x] w fun e w' => e = .returned (.bool b) ∧ ∃ n, w.drewN n = w' := by
  have hs := fun (w : World) => @run_fsub Try.prog w
  go_enter Try.func119, Try.ntmps119
  go_wp2
  go_ret
  exact ⟨rfl, _, rfl⟩
theorem between_c (q : Nat) (w : World) (b : Bool) (h : (b = true ∧ (FloatKind.f32.format.order q one32 = some .gt ∨ FloatKind.f32.format.order q one32 = some .eq) ∧ (FloatKind.f32.format.order q max32 = some .lt ∨ FloatKind.f32.format.order q max32 = some .eq)) ∨
      (b = false ∧ (FloatKind.f32.format.order q one32 = none ∨ FloatKind.f32.format.order q one32 = some .lt ∨ (FloatKind.f32.format.order q one32 = some .gt ∧ FloatKind.f32.format.order q max32 = some .gt)))) :
    Calls Try.prog 121 #[.float .f32 q, .float .f32 1065353216, .float .f32 2139095039] w fun e w' => e = .returned (.bool b) ∧ w = w' := by
  unfold one32 max32 at h
  rcases h with ⟨rfl, h1, h2⟩ | ⟨rfl, h⟩
  · rcases h1 with h1 | h1 <;> rcases h2 with h2 | h2
    all_goals
      go_enter Try.func121, Try.ntmps121
      go_wp2
      go_ret
      simp_all
  · rcases h with h | h | ⟨h, h2⟩
    all_goals
      go_enter Try.func121, Try.ntmps121
      go_wp2
      go_ret
      simp_all

theorem gt_b {o : Option Ordering} (h : o = some .gt) : (o == some .gt) = true := by rw [h]; rfl
theorem gt_n {o : Option Ordering} (h : ¬ o = some .gt) : (o == some .gt) = false := by simpa using h
theorem size_yes (n : Nat) (w : World) (h : (1 : Int) ≤ n) (h2 : (n : Int) ≤ 8) :
    Calls Try.prog 120 #[.int .i64 n] w fun e w' => e = .returned (.bool true) ∧ w = w' := by
  go_enter Try.func120, Try.ntmps120
  go_wp2_with fail
  refine (within_yes _ _ _ _ h h2).mono ?_
  rintro e w' ⟨rfl, rfl⟩
  go_wp2_with fail
  go_ret
  exact ⟨rfl, rfl⟩
theorem size_no (n : Nat) (w : World) (h : (n : Int) < 1 ∨ (8 : Int) < n) :
    Calls Try.prog 120 #[.int .i64 n] w fun e w' => e = .returned (.bool false) ∧ w = w' := by
  go_enter Try.func120, Try.ntmps120
  go_wp2_with fail
  refine (within_no _ _ _ _ h).mono ?_
  rintro e w' ⟨rfl, rfl⟩
  go_wp2_with fail
  go_ret
  exact ⟨rfl, rfl⟩
section
attribute [local go_sem] run_fmul
set_option maxHeartbeats 800000 in
set_option maxRecDepth 100000 in
theorem count_spec (A : Option Addr) (n c B : Nat) (x : Nat → Nat) (q : Nat) (w : World) (hm : n ≤ 9223372036854775807) (hB : B ≤ w.heap.size) (ha : Rd w B A n (fl x)) :
    Calls Try.prog 36 #[.slice A n c, .float .f32 q] w fun e w' => e = .returned (.tuple #[.int .i64 (cntR x q n).1, .bool (cntR x q n).2]) ∧ w.grownBy w' none := by
  by_cases hl : 1 ≤ n ∧ n ≤ 8
  · cases ho : okr q with
    | true =>
      have hR : cntR x q n = ((cnt x q (n - 1) : Int), true) := by unfold cntR; rw [if_pos ⟨hl.1, hl.2, ho⟩]
      rw [hR]
      clear hR
      have hf := lfin_c q w true (fun w => sub_zero (okr_fin ho) w)
      have h1 := okr_one ho
      clear ho
      have l1 : (1 : Int) ≤ n := by omega
      have l2 : (n : Int) ≤ 8 := by omega
      have H1 := Lib.hid h1
      have hlt : (FloatKind.f32.format.order q 1065353216 == some .lt) = false := by
        rcases h1 with h | h <;> (unfold one32 at h; rw [h]; rfl)
      clear h1
      have HO := Lib.hid (fun (k : Nat) (w : World) => ord_f (x k) q (x (k + 1)) w)
      go_enter Try.func36, Try.ntmps36
      go_wp2_with fail
      refine hf.mono ?_
      rintro e w1 ⟨rfl, m, rfl⟩
      have hg1 := gb_drewN w m none
      clear hf
      generalize w.drewN m = w1 at *
      go_wp2_with fail
      clear hlt
      go_loopw [6] (fun i wr => ∃ k : Nat, k ≤ n - 1 ∧ i = .int .i64 k ∧ cnt x q k = cnt x q (n - 1) ∧ w.grownBy wr none) (fun i _ => (intOf i).toNat)
      case atStart => exact ⟨n - 1, Nat.le_refl _, by congr 1; omega, rfl, hg1⟩
      case round =>
        obtain ⟨k, hk, rfl, hc, hg⟩ := hrel
        by_cases hz : 0 < k
        · obtain ⟨j, rfl⟩ : ∃ j, k = j + 1 := ⟨k - 1, by omega⟩
          have hrd := ha.kept0 hg hB
          obtain ⟨ad, rfl, _, hc0⟩ := hrd.at_ (show j < n by omega)
          obtain ⟨ad', e, _, hc1⟩ := hrd.at_ (show j + 1 < n by omega)
          cases e
          have c0 : wr.cell? (ad.add j) = some (.float .f32 (x j)) := hc0
          have c1 : wr.cell? ⟨ad.block, ad.off + (j + 1), none⟩ = some (.float .f32 (x (j + 1))) := hc1
          have k1 : (1 : Int) ≤ (j : Int) + 1 := by omega
          have k2 : IntKind.i64.wrap (j : Int) = (j : Int) := by rw [IntKind.wrap_i64]; omega
          have k3 : (j : Int) < n := by omega
          have k4 : (j : Int) + 1 < n := by omega
          have k5 : (0 : Int) ≤ (j : Int) := by omega
          have k6 : (0 : Int) ≤ (j : Int) + 1 := by omega
          have k7 : j < n := by omega
          have k8 : j + 1 < n := by omega
          clear hc0 hc1
          rw [cnt_succ] at hc
          have HC := Lib.hid hc
          clear hc
          rw [Int.natCast_add]
          by_cases hgt : FloatKind.f32.format.order (x j) (fop .mul .f32 q (x (j + 1))) = some .gt
          · have hgt2 := fun w => (HO.out j w).symm ▸ gt_b hgt
            have HC2 := HC.out
            rw [if_pos hgt] at HC2
            clear HC
            have HC := Lib.hid HC2
            clear HC2 hgt
            go_wp2_with fail
            go_region_with (fail)
            all_goals
              go_wp2_with fail
              go_ret2
              exact ⟨by rw [← HC.out]; rfl, hg.trans (gb_drewN wr _ none)⟩
          · have hgt2 := fun w => (HO.out j w).symm ▸ gt_n hgt
            have HC2 := HC.out
            rw [if_neg hgt] at HC2
            clear HC
            have HC := Lib.hid HC2
            clear HC2 hgt
            go_wp2_with fail
            go_region_with (fail)
            all_goals
              go_wp2_with fail
              go_roundw
              case rel => exact ⟨j, by omega, rfl, HC.out, hg.trans (gb_drewN wr _ none)⟩
              case measure => simp [intOf]
        · obtain rfl : k = 0 := by omega
          rw [show ((0 : Nat) : Int) = 0 from rfl]
          have hc0 : cnt x q (n - 1) = 0 := by rw [← hc]; rfl
          have HC := Lib.hid hc0
          clear hc hc0
          go_wp2_with fail
          go_ret2
          exact ⟨by rw [HC.out]; rfl, hg⟩
    | false =>
      have hR : cntR x q n = (0, false) := by unfold cntR; rw [if_neg (by rw [ho]; simp)]
      rw [hR]
      clear hR ha
      have l1 : (1 : Int) ≤ n := by omega
      have l2 : (n : Int) ≤ 8 := by omega
      by_cases hf : FinW single q
      · have hlt : (FloatKind.f32.format.order q 1065353216 == some .lt) = true := by
          rcases okr_no ho with h | h | h
          · exact absurd hf h.2
          · unfold one32 at h; rw [h]; rfl
          · exact absurd hf h.2.2
        have hs := lfin_c q w true (fun w => sub_zero hf w)
        clear ho hf
        go_enter Try.func36, Try.ntmps36
        go_wp2_with fail
        refine hs.mono ?_
        rintro e w1 ⟨rfl, m, rfl⟩
        clear hs
        go_wp2_with fail
        go_ret2
        exact ⟨rfl, gb_drewN w m none⟩
      · have hs := lfin_c q w false (fun w => sub_not hf w)
        clear ho hf
        go_enter Try.func36, Try.ntmps36
        go_wp2_with fail
        refine hs.mono ?_
        rintro e w1 ⟨rfl, m, rfl⟩
        clear hs
        go_wp2_with fail
        go_ret2
        exact ⟨rfl, gb_drewN w m none⟩
  · have hR : cntR x q n = (0, false) := by unfold cntR; rw [if_neg (fun h => hl ⟨h.1, h.2.1⟩)]
    rw [hR]
    clear hR ha
    have hn : (n : Int) < 1 ∨ ((1 : Int) ≤ n ∧ (8 : Int) < n) := by omega
    clear hl
    rcases hn with hn | ⟨hn, hn2⟩
    all_goals
      go_enter Try.func36, Try.ntmps36
      go_wp2_with fail
      go_ret2
      exact ⟨rfl, World.grownBy.refl _ _⟩
set_option maxHeartbeats 800000 in
set_option maxRecDepth 100000 in
theorem count_impl (A : Option Addr) (n c B : Nat) (x : Nat → Nat) (q : Nat) (w : World) (hm : n ≤ 9223372036854775807) (hB : B ≤ w.heap.size) (ha : Rd w B A n (fl x)) :
    Calls Try.prog 38 #[.slice A n c, .float .f32 q] w fun e w' => e = .returned (.tuple #[.int .i64 (cntR x q n).1, .bool (cntR x q n).2]) ∧ w.grownBy w' none := by
  by_cases hl : 1 ≤ n ∧ n ≤ 8
  · cases ho : okr q with
    | true =>
      have hR : cntR x q n = ((cnt x q (n - 1) : Int), true) := by unfold cntR; rw [if_pos ⟨hl.1, hl.2, ho⟩]
      rw [hR]
      clear hR
      have hf := between_c q w true (.inl ⟨rfl, okr_one ho, max_le (okr_fin ho)⟩)
      clear ho
      have l1 : (1 : Int) ≤ n := by omega
      have l2 : (n : Int) ≤ 8 := by omega
      have hsz := fun w => size_yes n w l1 l2
      have HO := Lib.hid (fun (k : Nat) (w : World) => ord_f (x k) q (x (k + 1)) w)
      go_enter Try.func38, Try.ntmps38
      go_wp2_with fail
      refine (hsz _).mono ?_
      rintro e w1 ⟨rfl, rfl⟩
      go_wp2_with fail
      refine hf.mono ?_
      rintro e w1 ⟨rfl, rfl⟩
      have hg1 := World.grownBy.refl w none
      clear hf hsz
      go_wp2_with fail
      go_loopw [6] (fun i wr => ∃ k : Nat, k ≤ n - 1 ∧ i = .int .i64 k ∧ cnt x q k = cnt x q (n - 1) ∧ w.grownBy wr none) (fun i _ => (intOf i).toNat)
      case atStart => exact ⟨n - 1, Nat.le_refl _, by congr 1; omega, rfl, hg1⟩
      case round =>
        obtain ⟨k, hk, rfl, hc, hg⟩ := hrel
        by_cases hz : 0 < k
        · obtain ⟨j, rfl⟩ : ∃ j, k = j + 1 := ⟨k - 1, by omega⟩
          have hrd := ha.kept0 hg hB
          obtain ⟨ad, rfl, _, hc0⟩ := hrd.at_ (show j < n by omega)
          obtain ⟨ad', e, _, hc1⟩ := hrd.at_ (show j + 1 < n by omega)
          cases e
          have c0 : wr.cell? (ad.add j) = some (.float .f32 (x j)) := hc0
          have c1 : wr.cell? ⟨ad.block, ad.off + (j + 1), none⟩ = some (.float .f32 (x (j + 1))) := hc1
          have k1 : (0 : Int) < (j : Int) + 1 := by omega
          have k2 : IntKind.i64.wrap (j : Int) = (j : Int) := by rw [IntKind.wrap_i64]; omega
          have k3 : (j : Int) < n := by omega
          have k4 : (j : Int) + 1 < n := by omega
          have k5 : (0 : Int) ≤ (j : Int) := by omega
          have k6 : (0 : Int) ≤ (j : Int) + 1 := by omega
          have k7 : j < n := by omega
          have k8 : j + 1 < n := by omega
          clear hc0 hc1
          rw [cnt_succ] at hc
          have HC := Lib.hid hc
          clear hc
          rw [Int.natCast_add]
          by_cases hgt : FloatKind.f32.format.order (x j) (fop .mul .f32 q (x (j + 1))) = some .gt
          · have hgt2 := fun w => (HO.out j w).symm ▸ gt_b hgt
            have HC2 := HC.out
            rw [if_pos hgt] at HC2
            clear HC
            have HC := Lib.hid HC2
            clear HC2 hgt
            go_wp2_with fail
            go_region_with (fail)
            all_goals
              go_wp2_with fail
              go_ret2
              exact ⟨by rw [← HC.out]; rfl, hg.trans (gb_drewN wr _ none)⟩
          · have hgt2 := fun w => (HO.out j w).symm ▸ gt_n hgt
            have HC2 := HC.out
            rw [if_neg hgt] at HC2
            clear HC
            have HC := Lib.hid HC2
            clear HC2 hgt
            go_wp2_with fail
            go_region_with (fail)
            all_goals
              go_wp2_with fail
              go_roundw
              case rel => exact ⟨j, by omega, rfl, HC.out, hg.trans (gb_drewN wr _ none)⟩
              case measure => simp [intOf]
        · obtain rfl : k = 0 := by omega
          rw [show ((0 : Nat) : Int) = 0 from rfl]
          have hc0 : cnt x q (n - 1) = 0 := by rw [← hc]; rfl
          have HC := Lib.hid hc0
          clear hc hc0
          go_wp2_with fail
          go_ret2
          exact ⟨by rw [HC.out]; rfl, hg⟩
    | false =>
      have hR : cntR x q n = (0, false) := by unfold cntR; rw [if_neg (by rw [ho]; simp)]
      rw [hR]
      clear hR ha
      have l1 : (1 : Int) ≤ n := by omega
      have l2 : (n : Int) ≤ 8 := by omega
      have hs := between_c q w false (.inr ⟨rfl, by
        rcases okr_no ho with h | h | h
        · exact .inl h.1
        · exact .inr (.inl h)
        · exact .inr (.inr ⟨h.1, h.2.1⟩)⟩)
      have hsz := fun w => size_yes n w l1 l2
      clear ho
      go_enter Try.func38, Try.ntmps38
      go_wp2_with fail
      refine (hsz _).mono ?_
      rintro e w1 ⟨rfl, rfl⟩
      go_wp2_with fail
      refine hs.mono ?_
      rintro e w1 ⟨rfl, rfl⟩
      clear hs hsz
      go_wp2_with fail
      go_ret2
      exact ⟨rfl, World.grownBy.refl _ _⟩
  · have hR : cntR x q n = (0, false) := by unfold cntR; rw [if_neg (fun h => hl ⟨h.1, h.2.1⟩)]
    rw [hR]
    clear hR ha
    have hsz := fun w => size_no n w (by omega)
    clear hl
    go_enter Try.func38, Try.ntmps38
    go_wp2_with fail
    refine (hsz _).mono ?_
    rintro e w1 ⟨rfl, rfl⟩
    clear hsz
    go_wp2_with fail
    go_ret2
    exact ⟨rfl, World.grownBy.refl _ _⟩
end

end Go.Proofs.Ytpeclgfopincbaa.count
