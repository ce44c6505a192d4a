/- What WidthOf, MainLobe, SideLevel and LobesOf tell of numbers below 8. -/
import Derived.Test.YtkjmlpdbnnmlhabRows
import Derived.Test.YtkjmlpdbnnmlhabSlc
import Derived.Test.YtkjmlpdbnnmlhabSmall
import Derived.Test.YtkjmlpdbnnmlhabListI
import Derived.Test.YtkjmlpdbnnmlhabFloatAll
import Derived.Test.YtkjmlpdbnnmlhabFWalk
import Derived.Test.YtkjmlpdbnnmlhabFinWalk
import Derived.Test.YtkjmlpdbnnmlhabFlAll
import Derived.Test.YtkjmlpdbnnmlhabTenAll
import Derived.Test.YtkjmlpdbnnmlhabCut
import Derived.Test.YtkjmlpdbnnmlhabListF
import Derived.Test.YtkjmlpdbnnmlhabMeanNum
import Derived.Test.YtkjmlpdbnnmlhabPeak
import Derived.Test.YtkjmlpdbnnmlhabReach
import Derived.Test.YtkjmlpdbnnmlhabReach2
import Derived.Test.YtkjmlpdbnnmlhabWidth
import Derived.Test.YtkjmlpdbnnmlhabSideAll
import Derived.Test.YtkjmlpdbnnmlhabRuns
import Derived.Test.YtkjmlpdbnnmlhabRuns2
import Derived.Test.YtkjmlpdbnnmlhabMarkF
import Derived.Test.YtkjmlpdbnnmlhabCutDraw
import Derived.Test.YtkjmlpdbnnmlhabRunsB
import Derived.Test.YtkjmlpdbnnmlhabCutNum
import Derived.WalkKit
import Derived.ProofKit
import Derived.OpenShut
import Derived.ShutString
import Derived.ChangeOld
import Derived.Below
import Derived.Lib.Hide
import Derived.BigQuiet
import Derived.Deep.QuietTactic
import Derived.WalkLawsBesides
import Derived.Outline
namespace Go.Proofs.Ytkjmlpdbnnmlhab.lobesN
open Go.ChangeShapes Go.WideShapes Go.ChangeAt Go.RowKit
open Go.ChangeMaps (open_string shut_string)
set_option linter.unusedVariables false
open Go Ieee Go.RowKit
open Go.Proofs.Ytkjmlpdbnnmlhab.floats Go.Proofs.Ytkjmlpdbnnmlhab.cut Go.Proofs.Ytkjmlpdbnnmlhab.listF Go.Proofs.Ytkjmlpdbnnmlhab.reach2 Go.Proofs.Ytkjmlpdbnnmlhab.width Go.Proofs.Ytkjmlpdbnnmlhab.sideNum Go.Proofs.Ytkjmlpdbnnmlhab.runs Go.Proofs.Ytkjmlpdbnnmlhab.runsB Go.Proofs.Ytkjmlpdbnnmlhab.cutDraw Go.Proofs.Ytkjmlpdbnnmlhab.cutNum

theorem lo_run {r : Nat → Nat → Bool} : ∀ (k m : Nat), lo r k ≤ m → m < k → r (m + 1) m = true
  | 0, m, h1, h2 => by omega
  | k + 1, m, h1, h2 => by
    rw [lo_succ] at h1
    by_cases hr : r (k + 1) k = true
    · rw [if_pos hr] at h1
      by_cases e : k = m
      · subst e; exact hr
      · exact lo_run k m h1 (by omega)
    · rw [if_neg hr] at h1
      omega
theorem lo_stop {r : Nat → Nat → Bool} : ∀ (k : Nat), 0 < lo r k → r (lo r k) (lo r k - 1) = false
  | 0, h => by
    have : lo r 0 = 0 := rfl
    omega
  | k + 1, h => by
    rw [lo_succ] at h ⊢
    by_cases hr : r (k + 1) k = true
    · rw [if_pos hr] at h ⊢
      exact lo_stop k h
    · rw [if_neg hr]
      simpa using hr

theorem half_all : ∀ a b : Fin 8, FloatKind.f32.format.order (fw b.val) (hvF (fw a.val)) = some (compare (2 * b.val) a.val) := by decide +kernel
theorem fw_half {a b : Nat} (ha : a < 8) (hb : b < 8) : FloatKind.f32.format.order (fw b) (hvF (fw a)) = some (compare (2 * b) a) := half_all ⟨a, ha⟩ ⟨b, hb⟩
theorem hv_all : ∀ a : Fin 8, floatBits .quo .f32 (fw a.val) 1073741824 = some (hvF (fw a.val)) := by decide +kernel
theorem fw_hv {a : Nat} (ha : a < 8) : floatBits .quo .f32 (fw a) 1073741824 = some (hvF (fw a)) := hv_all ⟨a, ha⟩
theorem ge_iff {p q : Nat} : ((some (compare p q) == some Ordering.gt) || (some (compare p q) == some Ordering.eq)) = decide (q ≤ p) := by
  rcases Nat.lt_trichotomy p q with h | h | h
  · rw [Nat.compare_eq_lt.2 h]; simp; omega
  · subst h; simp
  · rw [Nat.compare_eq_gt.2 h]; simp; omega
theorem le_iff {p q : Nat} : ((some (compare p q) == some Ordering.lt) || (some (compare p q) == some Ordering.eq)) = decide (p ≤ q) := by
  rcases Nat.lt_trichotomy p q with h | h | h
  · rw [Nat.compare_eq_lt.2 h]; simp; omega
  · subst h; simp
  · rw [Nat.compare_eq_gt.2 h]; simp; omega
section
variable {vs : List Nat} (h : ∀ x ∈ vs, x < 8)
include h
theorem wR_is (a i j : Nat) : wR (kx vs) (hvF (kx vs a)) i j = decide (vs.getD a 0 ≤ 2 * vs.getD j 0) := by
  unfold wR
  rw [show FloatKind.f32.format.order (kx vs j) (hvF (kx vs a)) = _ from fw_half (get_lt h a) (get_lt h j)]
  exact ge_iff
theorem mR_is (i j : Nat) : mR (kx vs) i j = decide (vs.getD j 0 ≤ vs.getD i 0) := by
  unfold mR
  rw [show FloatKind.f32.format.order (kx vs j) (kx vs i) = _ from fw_ord (get_lt h j) (get_lt h i)]
  exact le_iff
/-- WidthOf of a small cut. -/
theorem width_is {a : Nat} (ha : a < vs.length) (h12 : vs.length ≤ 12) : ∃ l u : Nat, widthT (kx vs) vs.length a = ((l : Int), (u : Int), true) ∧ l ≤ a ∧ a ≤ u ∧ u < vs.length ∧ (∀ i, l ≤ i → i ≤ u → vs.getD a 0 ≤ 2 * vs.getD i 0) ∧
    (0 < l → 2 * vs.getD (l - 1) 0 < vs.getD a 0) ∧ (u + 1 < vs.length → 2 * vs.getD (u + 1) 0 < vs.getD a 0) := by
  have hb := hi_bd (r := wR (kx vs) (hvF (kx vs a))) (vs.length - 1 - a) a
  have hl := lo_le (r := wR (kx vs) (hvF (kx vs a))) a
  refine ⟨_, _, ?_, hl, hb.1, by omega, fun i h1 h2 => ?_, fun h1 => ?_, fun h1 => ?_⟩
  · rcases width_cases (kx vs) vs.length (a : Int) with ⟨hn, _⟩ | ⟨k, hk, _, _, hh⟩
    · exact absurd ⟨⟨by omega, by omega⟩, by omega, by omega⟩ hn
    · obtain rfl : a = k := by omega
      rcases hh with ⟨hn, _⟩ | ⟨_, hg, _⟩ | ⟨_, _, e⟩
      · rw [show isNaN .f32 (kx vs a) = false from fw_nan (get_lt h a)] at hn; cases hn
      · unfold geB at hg
        rw [show FloatKind.f32.format.order (kx vs a) (hvF (kx vs a)) = _ from fw_half (get_lt h a) (get_lt h a), ge_iff] at hg
        simp only [decide_eq_false_iff_not] at hg
        omega
      · exact e
  · rcases Nat.lt_trichotomy i a with e | e | e
    · have := lo_run (r := wR (kx vs) (hvF (kx vs a))) a i h1 e
      rw [wR_is h] at this
      simpa using this
    · subst e; omega
    · obtain ⟨j, rfl⟩ : ∃ j, i = j + 1 := ⟨i - 1, by omega⟩
      have := hi_run (r := wR (kx vs) (hvF (kx vs a))) (vs.length - 1 - a) a j (by omega) (by omega)
      rw [wR_is h] at this
      simpa using this
  · have := lo_stop (r := wR (kx vs) (hvF (kx vs a))) a h1
    rw [wR_is h] at this
    simpa using this
  · have := hi_stop (r := wR (kx vs) (hvF (kx vs a))) (vs.length - 1 - a) a (by omega)
    rw [wR_is h] at this
    simpa using this
/-- MainLobe of a small cut. -/
theorem main_is {a : Nat} (ha : a < vs.length) (h12 : vs.length ≤ 12) : ∃ l u : Nat, mainT (kx vs) vs.length a = ((l : Int), (u : Int), true) ∧ l ≤ a ∧ a ≤ u ∧ u < vs.length ∧ (∀ i, l ≤ i → i < a → vs.getD i 0 ≤ vs.getD (i + 1) 0) ∧ (∀ i, a ≤ i → i < u → vs.getD (i + 1) 0 ≤ vs.getD i 0) ∧
    (0 < l → vs.getD l 0 < vs.getD (l - 1) 0) ∧ (u + 1 < vs.length → vs.getD u 0 < vs.getD (u + 1) 0) := by
  have hb := hi_bd (r := mR (kx vs)) (vs.length - 1 - a) a
  have hl := lo_le (r := mR (kx vs)) a
  refine ⟨_, _, ?_, hl, hb.1, by omega, fun i h1 h2 => ?_, fun i h1 h2 => ?_, fun h1 => ?_, fun h1 => ?_⟩
  · unfold mainT
    rw [if_pos ⟨⟨by omega, by omega⟩, by omega, by omega⟩, Int.toNat_natCast]
    rfl
  · have := lo_run (r := mR (kx vs)) a i h1 h2
    rw [mR_is h] at this
    simpa using this
  · have := hi_run (r := mR (kx vs)) (vs.length - 1 - a) a i h1 h2
    rw [mR_is h] at this
    simpa using this
  · have := lo_stop (r := mR (kx vs)) a h1
    rw [mR_is h] at this
    simpa using this
  · have := hi_stop (r := mR (kx vs)) (vs.length - 1 - a) a (by omega)
    rw [mR_is h] at this
    simpa using this
theorem sd_is (l u k : Nat) : (∃ s : Nat, sdI (kx vs) l u k = (s : Int) ∧ s < k ∧ (s < l ∨ u < s) ∧ ∀ i, i < k → (i < l ∨ u < i) → vs.getD i 0 ≤ vs.getD s 0) ∨ (sdI (kx vs) l u k = -1 ∧ ∀ i, i < k → ¬ (i < l ∨ u < i)) := by
  induction k with
  | zero => exact .inr ⟨rfl, fun i hi => by omega⟩
  | succ k ih =>
    have ho : FloatKind.f32.format.order (kx vs k) (kx vs k) = some .eq := order_refl (fw_nan (get_lt h _))
    rw [sdI_succ]
    by_cases hk : k < l ∨ u < k
    · rcases ih with ⟨s, e, h1, h2, h3⟩ | ⟨e, h3⟩
      · rw [e]
        rw [show ((s : Nat) : Int).toNat = s from Int.toNat_natCast s, show FloatKind.f32.format.order (kx vs k) (kx vs s) = _ from fw_ord (get_lt h k) (get_lt h s)]
        by_cases hc : vs.getD s 0 < vs.getD k 0
        · rw [if_pos ⟨hk, ho, .inr (by rw [Nat.compare_eq_gt.2 hc])⟩]
          refine .inl ⟨k, rfl, by omega, hk, fun i hi hi2 => ?_⟩
          by_cases e : i = k
          · subst e; exact Nat.le_refl _
          · have := h3 i (by omega) hi2; omega
        · rw [if_neg (by
            rintro ⟨_, _, h1 | h1⟩
            · omega
            · injection h1 with h1
              exact hc (Nat.compare_eq_gt.1 h1))]
          refine .inl ⟨s, rfl, by omega, h2, fun i hi hi2 => ?_⟩
          by_cases e : i = k
          · subst e; omega
          · exact h3 i (by omega) hi2
      · rw [e, if_pos ⟨hk, ho, .inl (by decide)⟩]
        refine .inl ⟨k, rfl, by omega, hk, fun i hi hi2 => ?_⟩
        by_cases e : i = k
        · subst e; exact Nat.le_refl _
        · exact absurd hi2 (h3 i (by omega))
    · rw [if_neg (fun q => hk q.1)]
      rcases ih with ⟨s, e, h1, h2, h3⟩ | ⟨e, h3⟩
      · refine .inl ⟨s, e, by omega, h2, fun i hi hi2 => ?_⟩
        by_cases e : i = k
        · subst e; exact absurd hi2 hk
        · exact h3 i (by omega) hi2
      · refine .inr ⟨e, fun i hi hi2 => ?_⟩
        by_cases e : i = k
        · subst e; exact hk hi2
        · exact h3 i (by omega) hi2
/-- SideLevel of a small cut. -/
theorem side_is {l u : Nat} (hl : l ≤ u) (hu : u < vs.length) : (∃ s : Nat, sdR (kx vs) l u vs.length = (fw (vs.getD s 0), true) ∧ (0 < l ∨ u + 1 < vs.length) ∧ s < vs.length ∧ (s < l ∨ u < s) ∧ ∀ i, i < vs.length → (i < l ∨ u < i) → vs.getD i 0 ≤ vs.getD s 0) ∨
    (sdR (kx vs) l u vs.length = (0, false) ∧ l = 0 ∧ u + 1 = vs.length) := by
  unfold sdR
  rcases sd_is h l u vs.length with ⟨s, e, h1, h2, h3⟩ | ⟨e, h3⟩
  · rw [e, if_pos (by omega)]
    exact .inl ⟨s, rfl, by omega, h1, h2, h3⟩
  · rw [e, if_neg (by omega)]
    have a1 := h3 (l - 1) (by omega)
    refine .inr ⟨rfl, by omega, ?_⟩
    rcases Nat.lt_or_ge (u + 1) vs.length with q | q
    · exact absurd (.inr (Nat.lt_succ_self u)) (h3 (u + 1) q)
    · omega
omit h in
theorem runs_in (s : Bool) (x : Nat → Nat) (n : Nat) : ∀ (f i : Nat), ∀ a ∈ runs s x n f i, 0 ≤ a ∧ a < (n : Int)
  | 0, i, a, ha => by cases ha
  | f + 1, i, a, ha => by
    have ha : a ∈ (if i < n then _ else _ : List Int) := ha
    by_cases hi : i < n
    · rw [if_pos hi] at ha
      rcases List.mem_append.1 ha with h1 | h1
      · split at h1
        · simp at h1
          omega
        · cases h1
      · exact runs_in s x n f _ a h1
    · rw [if_neg hi] at ha
      cases ha
/-- There is a lobe. -/
theorem lobes_ne (h1 : 1 ≤ vs.length) (h12 : vs.length ≤ 12) : ∃ q, (runs true (kx vs) vs.length vs.length 0).length = q + 1 := by
  obtain ⟨b, _, hb, hall⟩ := peak_is h h1 h12
  have := List.length_pos_of_mem (lobe_mem h hb hall vs.length 0 (Nat.zero_le _) (by omega))
  exact ⟨_, (Nat.succ_pred_eq_of_pos this).symm⟩
end

end Go.Proofs.Ytkjmlpdbnnmlhab.lobesN
