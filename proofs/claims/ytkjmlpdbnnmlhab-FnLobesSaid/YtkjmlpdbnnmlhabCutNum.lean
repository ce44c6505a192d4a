/- Cuts of numbers below 8: orders, the peak, sums, means, tenths. -/
import Derived.Test.YtkjmlpdbnnmlhabRows
import Derived.Test.YtkjmlpdbnnmlhabSlc
import Derived.Test.YtkjmlpdbnnmlhabSmall
import Derived.Test.YtkjmlpdbnnmlhabListI
import Derived.Test.YtkjmlpdbnnmlhabFloatAll
import Derived.Test.YtkjmlpdbnnmlhabFWalk
import Derived.Test.YtkjmlpdbnnmlhabFinWalk
import Derived.Test.YtkjmlpdbnnmlhabFlAll
import Derived.Test.YtkjmlpdbnnmlhabTenAll
import Derived.Test.YtkjmlpdbnnmlhabCut
import Derived.Test.YtkjmlpdbnnmlhabListF
import Derived.Test.YtkjmlpdbnnmlhabMeanNum
import Derived.Test.YtkjmlpdbnnmlhabRuns
import Derived.Test.YtkjmlpdbnnmlhabCutDraw
import Derived.Test.YtkjmlpdbnnmlhabRunsB
import Derived.WalkKit
import Derived.ProofKit
import Derived.OpenShut
import Derived.ShutString
import Derived.ChangeOld
import Derived.Below
import Derived.Lib.Hide
import Derived.BigQuiet
import Derived.Deep.QuietTactic
import Derived.WalkLawsBesides
import Derived.Outline
namespace Go.Proofs.Ytkjmlpdbnnmlhab.cutNum
open Go.ChangeShapes Go.WideShapes Go.ChangeAt Go.RowKit
open Go.ChangeMaps (open_string shut_string)
set_option linter.unusedVariables false
open Go Ieee Go.RowKit
open Go.Proofs.Ytkjmlpdbnnmlhab.slc Go.Proofs.Ytkjmlpdbnnmlhab.small Go.Proofs.Ytkjmlpdbnnmlhab.listI Go.Proofs.Ytkjmlpdbnnmlhab.floats Go.Proofs.Ytkjmlpdbnnmlhab.round Go.Proofs.Ytkjmlpdbnnmlhab.values Go.Proofs.Ytkjmlpdbnnmlhab.conv Go.Proofs.Ytkjmlpdbnnmlhab.fWalk Go.Proofs.Ytkjmlpdbnnmlhab.logWalk Go.Proofs.Ytkjmlpdbnnmlhab.tenths3 Go.Proofs.Ytkjmlpdbnnmlhab.tenthsBd Go.Proofs.Ytkjmlpdbnnmlhab.cut Go.Proofs.Ytkjmlpdbnnmlhab.listF Go.Proofs.Ytkjmlpdbnnmlhab.meanNum Go.Proofs.Ytkjmlpdbnnmlhab.runs Go.Proofs.Ytkjmlpdbnnmlhab.cutDraw Go.Proofs.Ytkjmlpdbnnmlhab.runsB

theorem ord_all : ∀ a b : Fin 8, FloatKind.f32.format.order (fw a.val) (fw b.val) = some (compare a.val b.val) := by decide +kernel
theorem fw_ord {a b : Nat} (ha : a < 8) (hb : b < 8) : FloatKind.f32.format.order (fw a) (fw b) = some (compare a b) := ord_all ⟨a, ha⟩ ⟨b, hb⟩
theorem nan_all : ∀ a : Fin 8, isNaN .f32 (fw a.val) = false := by decide +kernel
theorem fw_nan {a : Nat} (ha : a < 8) : isNaN .f32 (fw a) = false := nan_all ⟨a, ha⟩
theorem wf_all : ∀ a : Fin 8, (Lit.float .f32 (fw a.val)).wf = true := by decide +kernel
theorem fw_wf {a : Nat} (ha : a < 8) : (Lit.float .f32 (fw a)).wf = true := wf_all ⟨a, ha⟩
theorem zero_all : ∀ a : Fin 8, FloatKind.f32.format.order (fw a.val) 0 = some (compare a.val 0) := by decide +kernel
theorem fw_zero {a : Nat} (ha : a < 8) : FloatKind.f32.format.order (fw a) 0 = some (compare a 0) := zero_all ⟨a, ha⟩
theorem tn_all : ∀ a : Fin 8, tnOk (fw a.val) = decide (0 < a.val) := by decide +kernel
theorem fw_tn {a : Nat} (ha : a < 8) : tnOk (fw a) = decide (0 < a) := tn_all ⟨a, ha⟩
theorem lv_all : ∀ a b : Fin 8, 0 < a.val → a.val ≤ b.val → lv (tnI (fw b.val)) (tnI (fw a.val)) ≤ 0 ∧ -2000 < lv (tnI (fw b.val)) (tnI (fw a.val)) ∧ (a.val = b.val → lv (tnI (fw b.val)) (tnI (fw a.val)) = 0) := by decide +kernel
/-- A number 64 bits wide. -/
def fd (k : Nat) : Nat := floatOfInt .f64 (k : Int)
theorem wid_all : ∀ a : Fin 8, floatToFloatBits .f32 (fw a.val) .f64 = some (fd a.val) := by decide +kernel
theorem fw_wid {a : Nat} (ha : a < 8) : floatToFloatBits .f32 (fw a) .f64 = some (fd a) := wid_all ⟨a, ha⟩
theorem dn_all : ∀ a : Fin 100, isNaN .f64 (fd a.val) = false := by decide +kernel
theorem sum_all : ∀ (a : Fin 85) (b : Fin 8), floatBits .add .f64 (fd a.val) (fd b.val) = some (fd (a.val + b.val)) := by decide +kernel
theorem fd_sum {a b : Nat} (ha : a < 85) (hb : b < 8) : floatBits .add .f64 (fd a) (fd b) = some (fd (a + b)) := sum_all ⟨a, ha⟩ ⟨b, hb⟩
theorem fw_wx {a : Nat} (ha : a < 8) : wx (fw a) = fd a := by
  unfold wx cop
  rw [fw_wid ha]
  exact can_of_not (dn_all ⟨a, by omega⟩)
/-- The sum of the first k. -/
def sm (vs : List Nat) : Nat → Nat
  | 0 => 0
  | k + 1 => sm vs k + vs.getD k 0
theorem get_lt {vs : List Nat} (h : ∀ x ∈ vs, x < 8) (k : Nat) : vs.getD k 0 < 8 := by
  by_cases hk : k < vs.length
  · simp [List.getD, hk, h _ (List.getElem_mem hk)]
  · simp [List.getD, hk]
theorem sm_le {vs : List Nat} (h : ∀ x ∈ vs, x < 8) (k : Nat) : sm vs k ≤ 7 * k := by
  induction k with
  | zero => exact Nat.le_refl _
  | succ k ih =>
    have := get_lt h k
    show sm vs k + vs.getD k 0 ≤ _
    omega
theorem sum_sm {vs : List Nat} (h : ∀ x ∈ vs, x < 8) (k : Nat) (hk : k ≤ 12) : sumC (kx vs) k = fd (sm vs k) := by
  induction k with
  | zero => show 0 = fd 0; decide +kernel
  | succ k ih =>
    have h1 := sm_le h k
    show fop .add .f64 (sumC (kx vs) k) (wx (fw (vs.getD k 0))) = fd (sm vs k + vs.getD k 0)
    rw [ih (by omega), fw_wx (get_lt h k)]
    unfold fop
    rw [fd_sum (by omega) (get_lt h k)]
    have := get_lt h k
    exact can_of_not (dn_all ⟨_, by omega⟩)
def c001 : Nat := 4562254508917369340
/-- The mean, back times the count, is the sum but for little. -/
def chk (S n : Nat) : Bool :=
  match floatBits .quo .f64 (fd S) (fd n) with
  | none => false
  | some q => match floatToFloatBits .f64 q .f32 with
    | none => false
    | some m => !isNaN .f64 q && !isNaN .f32 m && match floatToFloatBits .f32 m .f64 with
      | none => false
      | some m' => match floatBits .mul .f64 m' (fd n) with
        | none => false
        | some p => if FloatKind.f64.format.order p (fd S) == some .lt then (match floatBits .sub .f64 (fd S) p with | none => false | some g => !(FloatKind.f64.format.order g c001 == some .gt))
          else (match floatBits .sub .f64 p (fd S) with | none => false | some g => !(FloatKind.f64.format.order g c001 == some .gt))
theorem chk_all : ∀ (S : Fin 85) (n : Fin 12), chk S.val (n.val + 1) = true := by decide +kernel
theorem mean_near {S n : Nat} (hS : S ≤ 84) (h1 : 1 ≤ n) (h2 : n ≤ 12) : ∃ q m m' p, floatBits .quo .f64 (fd S) (fd n) = some q ∧ isNaN .f64 q = false ∧ floatToFloatBits .f64 q .f32 = some m ∧ isNaN .f32 m = false ∧ floatToFloatBits .f32 m .f64 = some m' ∧ floatBits .mul .f64 m' (fd n) = some p ∧
    (((FloatKind.f64.format.order p (fd S) == some .lt) = true ∧ ∃ g, floatBits .sub .f64 (fd S) p = some g ∧ (FloatKind.f64.format.order g c001 == some .gt) = false) ∨ ((FloatKind.f64.format.order p (fd S) == some .lt) = false ∧ ∃ g, floatBits .sub .f64 p (fd S) = some g ∧ (FloatKind.f64.format.order g c001 == some .gt) = false)) := by
  have h := chk_all ⟨S, by omega⟩ ⟨n - 1, by omega⟩
  rw [show n - 1 + 1 = n by omega] at h
  unfold chk at h
  cases hq : floatBits .quo .f64 (fd S) (fd n) with
  | none => rw [hq] at h; cases h
  | some q =>
    rw [hq] at h
    cases hm : floatToFloatBits .f64 q .f32 with
    | none => simp only [hm] at h; cases h
    | some m =>
      simp only [hm] at h
      rw [Bool.and_eq_true, Bool.and_eq_true] at h
      obtain ⟨⟨a1, a2⟩, h⟩ := h
      cases hm' : floatToFloatBits .f32 m .f64 with
      | none => simp only [hm'] at h; cases h
      | some m' =>
        simp only [hm'] at h
        cases hp : floatBits .mul .f64 m' (fd n) with
        | none => simp only [hp] at h; cases h
        | some p =>
          simp only [hp] at h
          refine ⟨q, m, m', p, rfl, by simpa using a1, hm, by simpa using a2, hm', hp, ?_⟩
          by_cases hl : (FloatKind.f64.format.order p (fd S) == some .lt) = true
          · rw [if_pos hl] at h
            cases hg : floatBits .sub .f64 (fd S) p with
            | none => simp only [hg] at h; cases h
            | some g => simp only [hg] at h; exact .inl ⟨hl, g, rfl, by simpa using h⟩
          · rw [if_neg hl] at h
            cases hg : floatBits .sub .f64 p (fd S) with
            | none => simp only [hg] at h; cases h
            | some g => simp only [hg] at h; exact .inr ⟨by simpa using hl, g, rfl, by simpa using h⟩
theorem mn_is {vs : List Nat} (h : ∀ x ∈ vs, x < 8) {n q m r : Nat} (h2 : n ≤ 12) (hq : floatBits .quo .f64 (fd (sm vs n)) (fd n) = some q) (hqn : isNaN .f64 q = false) (hm : floatToFloatBits .f64 q .f32 = some m) (hmn : isNaN .f32 m = false) (hr : can .f32 r = mnC (kx vs) n) : r = m := by
  have e1 : meanC (kx vs) n = q := by
    unfold meanC
    rw [sum_sm h n h2]
    show fop .quo .f64 (fd (sm vs n)) (fd n) = q
    unfold fop
    rw [hq]
    exact can_of_not hqn
  have e2 : mnC (kx vs) n = m := by
    unfold mnC cop
    rw [e1, hm]
    exact can_of_not hmn
  rw [e2] at hr
  have hrn : isNaN .f32 r = false := by rw [← isNaN_can, hr]; exact hmn
  rw [can_of_not hrn] at hr
  exact hr

/-! ## the peak -/
theorem cmp_gt {a b : Nat} : compare a b = .gt ↔ b < a := Nat.compare_eq_gt
theorem pk_is {vs : List Nat} (h : ∀ x ∈ vs, x < 8) (k : Nat) : pkI (kx vs) (k + 1) = ((pkI (kx vs) (k + 1)).toNat : Int) ∧ (pkI (kx vs) (k + 1)).toNat < k + 1 ∧ ∀ i, i < k + 1 → vs.getD i 0 ≤ vs.getD (pkI (kx vs) (k + 1)).toNat 0 ∧ (i < (pkI (kx vs) (k + 1)).toNat → vs.getD i 0 < vs.getD (pkI (kx vs) (k + 1)).toNat 0) := by
  induction k with
  | zero =>
    have e : pkI (kx vs) 1 = 0 := by
      rw [pkI_succ, if_pos ⟨order_refl (fw_nan (get_lt h 0)), .inl (by simp [pkI])⟩]
      rfl
    rw [e]
    refine ⟨rfl, by decide, fun i hi => ?_⟩
    obtain rfl : i = 0 := by omega
    exact ⟨Nat.le_refl _, fun h => absurd h (by decide)⟩
  | succ k ih =>
    obtain ⟨e, hb, hall⟩ := ih
    generalize (pkI (kx vs) (k + 1)).toNat = b at *
    rw [pkI_succ, e]
    have ho : FloatKind.f32.format.order (kx vs (k + 1)) (kx vs (k + 1)) = some .eq := order_refl (fw_nan (get_lt h _))
    have hg : FloatKind.f32.format.order (kx vs (k + 1)) (kx vs b) = some (compare (vs.getD (k + 1) 0) (vs.getD b 0)) := fw_ord (get_lt h _) (get_lt h _)
    have et : ((b : Nat) : Int).toNat = b := by omega
    rw [et]
    by_cases hc : vs.getD b 0 < vs.getD (k + 1) 0
    · rw [if_pos ⟨ho, .inr (by rw [hg, Nat.compare_eq_gt.2 hc])⟩]
      refine ⟨by omega, by omega, fun i hi => ?_⟩
      rw [show ((k + 1 : Nat) : Int).toNat = k + 1 by omega]
      by_cases hik : i = k + 1
      · subst hik; exact ⟨Nat.le_refl _, fun h => absurd h (Nat.lt_irrefl _)⟩
      · have := (hall i (by omega)).1
        exact ⟨by omega, fun _ => by omega⟩
    · rw [if_neg (by
        rintro ⟨_, h1 | h1⟩
        · omega
        · rw [hg] at h1
          injection h1 with h1
          exact hc (Nat.compare_eq_gt.1 h1))]
      rw [et]
      refine ⟨rfl, by omega, fun i hi => ?_⟩
      by_cases hik : i = k + 1
      · subst hik; exact ⟨by omega, fun h => by omega⟩
      · exact hall i (by omega)
/-- The peak of a cut. -/
theorem peak_is {vs : List Nat} (h : ∀ x ∈ vs, x < 8) (h1 : 1 ≤ vs.length) (h2 : vs.length ≤ 12) : ∃ b : Nat, pkR (kx vs) vs.length = ((b : Int), true) ∧ b < vs.length ∧ ∀ i, i < vs.length → vs.getD i 0 ≤ vs.getD b 0 ∧ (i < b → vs.getD i 0 < vs.getD b 0) := by
  obtain ⟨k, hk⟩ : ∃ k, vs.length = k + 1 := ⟨vs.length - 1, by omega⟩
  obtain ⟨e, hb, hall⟩ := pk_is h k
  rw [hk]
  refine ⟨_, ?_, hb, hall⟩
  unfold pkR
  rw [if_pos ⟨⟨by omega, by omega⟩, by rw [e]; omega⟩, ← e]

/-! ## the peak is a lobe -/
theorem in_run {vs : List Nat} (h : ∀ x ∈ vs, x < 8) {i m K : Nat} (hr : ∀ m, i ≤ m → m < K → (FloatKind.f32.format.order (kx vs (m + 1)) (kx vs i) == some .eq) = true) (h1 : i ≤ m) (h2 : m ≤ K) : vs.getD m 0 = vs.getD i 0 := by
  by_cases e : m = i
  · rw [e]
  · obtain ⟨p, rfl⟩ : ∃ p, m = p + 1 := ⟨m - 1, by omega⟩
    have := hr p (by omega) (by omega)
    rw [show FloatKind.f32.format.order (kx vs (p + 1)) (kx vs i) = some (compare (vs.getD (p + 1) 0) (vs.getD i 0)) from fw_ord (get_lt h _) (get_lt h _)] at this
    have h3 : compare (vs.getD (p + 1) 0) (vs.getD i 0) = .eq := by simpa using this
    exact Nat.compare_eq_eq.1 h3
theorem lobe_mem {vs : List Nat} (h : ∀ x ∈ vs, x < 8) {b : Nat} (hb : b < vs.length) (hall : ∀ i, i < vs.length → vs.getD i 0 ≤ vs.getD b 0 ∧ (i < b → vs.getD i 0 < vs.getD b 0)) :
    ∀ (f i : Nat), i ≤ b → vs.length - i ≤ f → (b : Int) ∈ runs true (kx vs) vs.length f i
  | 0, i, h1, h2 => by omega
  | f + 1, i, h1, h2 => by
    show (b : Int) ∈ (if i < vs.length then _ else _ : List Int)
    rw [if_pos (by omega)]
    obtain ⟨K1, K2, K3, K4⟩ := run_is (kx vs) vs.length i (by omega)
    by_cases e : i = b
    · subst e
      refine List.mem_append_left _ ?_
      rw [if_pos]
      · simp
      · refine ⟨fw_nan (get_lt h _), ?_⟩
        unfold fine near
        have q1 : decide (i = 0) = true ∨ (FloatKind.f32.format.order (kx vs (i - 1)) (kx vs i) == some .lt) = true := by
          by_cases hz : i = 0
          · exact .inl (by simp [hz])
          · right
            rw [show FloatKind.f32.format.order (kx vs (i - 1)) (kx vs i) = some (compare (vs.getD (i - 1) 0) (vs.getD i 0)) from fw_ord (get_lt h _) (get_lt h _), Nat.compare_eq_lt.2 ((hall (i - 1) (by omega)).2 (by omega))]
            rfl
        have q2 : decide (runK (kx vs) vs.length i + 1 = vs.length) = true ∨ (FloatKind.f32.format.order (kx vs (runK (kx vs) vs.length i + 1)) (kx vs i) == some .lt) = true := by
          by_cases hz : runK (kx vs) vs.length i + 1 = vs.length
          · exact .inl (by simp [hz])
          · right
            have hn := K4 (by omega)
            rw [show FloatKind.f32.format.order (kx vs (runK (kx vs) vs.length i + 1)) (kx vs i) = some (compare (vs.getD (runK (kx vs) vs.length i + 1) 0) (vs.getD i 0)) from fw_ord (get_lt h _) (get_lt h _)] at hn ⊢
            have hle := (hall (runK (kx vs) vs.length i + 1) (by omega)).1
            rcases Nat.lt_or_eq_of_le hle with h3 | h3
            · rw [Nat.compare_eq_lt.2 h3]; rfl
            · rw [h3] at hn; simp at hn
        simp only [if_true]
        rw [Bool.and_eq_true, Bool.or_eq_true, Bool.or_eq_true]
        exact ⟨q1, q2⟩
    · refine List.mem_append_right _ (lobe_mem h hb hall f _ ?_ (by omega))
      rcases Nat.lt_or_ge (runK (kx vs) vs.length i) b with h3 | h3
      · omega
      · exfalso
        have e1 := in_run h K3 (show i ≤ b by omega) h3
        have := (hall i (by omega)).2 (by omega)
        omega

end Go.Proofs.Ytkjmlpdbnnmlhab.cutNum
