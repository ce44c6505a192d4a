/- Polynomials over complex numbers with integers as parts: zeros, products, values. -/
/- Complex numbers with small integers as parts: sums and products are exact. -/
/- Floats as fractions: what an operation leaves is near to the exact number. -/
import Derived.Test.YtbefoiikbbjjfaaSlc
import Derived.Test.YtbefoiikbbjjfaaFloatAll
import Derived.Test.YtbefoiikbbjjfaaFWalk
import Derived.Test.YtbefoiikbbjjfaaFinWalk
import Derived.Test.YtbefoiikbbjjfaaFlAll
import Derived.Test.YtbefoiikbbjjfaaPhasor
import Derived.Test.YtbefoiikbbjjfaaListC
import Derived.Test.YtbefoiikbbjjfaaSteerNum
import Derived.Test.YtbefoiikbbjjfaaSineIn
import Derived.Test.YtbefoiikbbjjfaaPolyAll
import Derived.Test.YtbefoiikbbjjfaaSmall
import Derived.Test.YtbefoiikbbjjfaaOpens
namespace Go.Proofs.Ytbefoiikbbjjfaa.gPoly
set_option linter.unusedVariables false
abbrev G := Int × Int
def gm (x y : G) : G := (x.1 * y.1 - x.2 * y.2, x.1 * y.2 + x.2 * y.1)
def ga (x y : G) : G := (x.1 + y.1, x.2 + y.2)
def gs (x y : G) : G := (x.1 - y.1, x.2 - y.2)
def gz : G := (0, 0)
def gN (x : G) : Nat := x.1.natAbs + x.2.natAbs
theorem gN_gm (x y : G) : gN (gm x y) ≤ gN x * gN y := by
  obtain ⟨a, b⟩ := x
  obtain ⟨c, d⟩ := y
  have e : (a.natAbs + b.natAbs) * (c.natAbs + d.natAbs) = (a * c).natAbs + (b * d).natAbs + ((a * d).natAbs + (b * c).natAbs) := by
    simp only [Int.natAbs_mul]; grind
  unfold gN gm
  dsimp only
  rw [e]
  generalize a * c = p
  generalize b * d = q
  generalize a * d = r
  generalize b * c = s
  omega
theorem gN_ga (x y : G) : gN (ga x y) ≤ gN x + gN y := by unfold gN ga; dsimp only; omega
theorem gN_gs (x y : G) : gN (gs x y) ≤ gN x + gN y := by unfold gN gs; dsimp only; omega
theorem gm_zero (x : G) : gm gz x = gz := by unfold gm gz; simp
theorem gm_zero' (x : G) : gm x gz = gz := by unfold gm gz; simp
/-- A polynomial times one of one zero. -/
def gnx (f : Nat → G) (z : G) (k : Nat) : G := gs (if k = 0 then gz else f (k - 1)) (gm (f k) z)
def g1 (k : Nat) : G := if k = 0 then (1, 0) else gz
def gpol (zs : List G) : Nat → G := zs.foldl gnx g1
theorem gpol_snoc (zs : List G) (z : G) : gpol (zs ++ [z]) = gnx (gpol zs) z := by simp [gpol]
theorem gnx_N {f : Nat → G} {B : Nat} (hf : ∀ k, gN (f k) ≤ B) {z : G} {C : Nat} (hz : gN z ≤ C) (k : Nat) : gN (gnx f z k) ≤ B + B * C := by
  unfold gnx
  refine Nat.le_trans (gN_gs _ _) (Nat.add_le_add ?_ (Nat.le_trans (gN_gm _ _) (Nat.mul_le_mul (hf k) hz)))
  split
  · show 0 ≤ B; omega
  · exact hf _
theorem fold_N (C : Nat) : ∀ (zs : List G) (f : Nat → G) (B : Nat), (∀ z ∈ zs, gN z ≤ C) → (∀ k, gN (f k) ≤ B) → ∀ k, gN (zs.foldl gnx f k) ≤ B * (1 + C) ^ zs.length
  | [], f, B, _, hf, k => by simpa using hf k
  | z :: zs, f, B, hz, hf, k => by
    rw [List.foldl_cons]
    have := fold_N C zs (gnx f z) (B + B * C) (fun y hy => hz y (List.mem_cons_of_mem _ hy)) (gnx_N hf (hz z List.mem_cons_self)) k
    rw [List.length_cons, Nat.pow_succ, show B * ((1 + C) ^ zs.length * (1 + C)) = (B + B * C) * (1 + C) ^ zs.length by grind]
    exact this
theorem gpol_N {C : Nat} {zs : List G} (hz : ∀ z ∈ zs, gN z ≤ C) (k : Nat) : gN (gpol zs k) ≤ (1 + C) ^ zs.length := by
  have := fold_N C zs g1 1 hz (fun k => by unfold g1; split <;> decide) k
  rw [Nat.one_mul] at this
  exact this
theorem gnx_hi {f : Nat → G} {n : Nat} (hf : ∀ k, n < k → f k = gz) (z : G) (k : Nat) (hk : n + 1 < k) : gnx f z k = gz := by
  unfold gnx
  rw [if_neg (by omega), hf _ (by omega), hf _ (by omega), gm_zero]; rfl
theorem fold_hi : ∀ (zs : List G) (f : Nat → G) (n : Nat), (∀ k, n < k → f k = gz) → ∀ k, n + zs.length < k → zs.foldl gnx f k = gz
  | [], f, n, hf, k, hk => hf k hk
  | z :: zs, f, n, hf, k, hk => by
    rw [List.foldl_cons]
    rw [List.length_cons] at hk
    exact fold_hi zs _ (n + 1) (fun k hk => gnx_hi hf z k hk) k (by omega)
theorem g1_hi (k : Nat) (h : 0 < k) : g1 k = gz := by unfold g1; rw [if_neg (by omega)]
theorem gpol_hi (zs : List G) (k : Nat) (h : zs.length < k) : gpol zs k = gz := fold_hi zs g1 0 g1_hi k (by omega)
theorem gnx_top {f : Nat → G} {n : Nat} (hf : ∀ k, n < k → f k = gz) (z : G) : gnx f z (n + 1) = f n := by
  unfold gnx
  rw [if_neg (by omega), show n + 1 - 1 = n by omega, hf (n + 1) (by omega), gm_zero]
  unfold gs gz
  simp
theorem fold_top : ∀ (zs : List G) (f : Nat → G) (n : Nat), (∀ k, n < k → f k = gz) → zs.foldl gnx f (n + zs.length) = f n
  | [], f, n, hf => rfl
  | z :: zs, f, n, hf => by
    rw [List.foldl_cons, List.length_cons, show n + (zs.length + 1) = (n + 1) + zs.length by omega, fold_top zs _ (n + 1) (fun k hk => gnx_hi hf z k hk)]
    exact gnx_top hf z
theorem gpol_top (zs : List G) : gpol zs zs.length = (1, 0) := by
  have := fold_top zs g1 0 g1_hi
  rw [Nat.zero_add] at this
  exact this

/-- The product of two polynomials, of whose first one n numbers are taken. -/
def gcv (a b : Nat → G) : Nat → Nat → G
  | 0, _ => gz
  | n + 1, t => if n ≤ t then ga (gcv a b n t) (gm (a n) (b (t - n))) else gcv a b n t
theorem g_nx1 (x y u v z : G) : ga (gs x (gm y z)) (gm u v) = gs (ga x (gm u v)) (gm y z) := by
  unfold ga gs gm; ext <;> dsimp only <;> omega
theorem g_nx2 (x y z a b p : G) : ga (gs x (gm y z)) (gm a (gs p (gm b z))) = gs (ga x (gm a p)) (gm (ga y (gm a b)) z) := by
  unfold ga gs gm; ext <;> dsimp only <;> grind
theorem gcv_yes (a b : Nat → G) {n t : Nat} (h : n ≤ t) : gcv a b (n + 1) t = ga (gcv a b n t) (gm (a n) (b (t - n))) := if_pos h
theorem gcv_no (a b : Nat → G) {n t : Nat} (h : ¬ n ≤ t) : gcv a b (n + 1) t = gcv a b n t := if_neg h
theorem gcv_nx (a b : Nat → G) (z : G) : ∀ (n t : Nat), gcv a (gnx b z) n t = gnx (gcv a b n) z t
  | 0, t => by
    show gz = gs (if t = 0 then gz else gz) (gm gz z)
    rw [gm_zero]; split <;> rfl
  | n + 1, t => by
    have ih := gcv_nx a b z n t
    by_cases h1 : n ≤ t
    · rw [gcv_yes _ _ h1, ih]
      unfold gnx
      by_cases h2 : n = t
      · subst h2
        rw [gcv_yes _ _ h1, Nat.sub_self, if_pos rfl]
        by_cases h3 : n = 0
        · subst h3
          rw [if_pos rfl, if_pos rfl]
          have := g_nx2 gz (gcv a b 0 0) z (a 0) (b 0) gz
          rw [this]
          rw [gm_zero']; rfl
        · rw [if_neg h3, if_neg h3, gcv_no _ _ (show ¬ n ≤ n - 1 by omega)]
          have := g_nx2 (gcv a b n (n - 1)) (gcv a b n n) z (a n) (b 0) gz
          rw [this, gm_zero']
          unfold ga gz; simp
      · rw [gcv_yes _ _ h1, if_neg (show ¬ t = 0 by omega), if_neg (show ¬ t - n = 0 by omega), if_neg (show ¬ t = 0 by omega), gcv_yes _ _ (show n ≤ t - 1 by omega), show t - 1 - n = t - n - 1 by omega]
        exact g_nx2 _ _ _ _ _ _
    · rw [gcv_no _ _ h1, ih]
      unfold gnx
      rw [gcv_no _ _ h1]
      by_cases h3 : t = 0
      · rw [if_pos h3, if_pos h3]
      · rw [if_neg h3, if_neg h3, gcv_no _ _ (by omega)]
theorem gcv_one (a : Nat → G) (t : Nat) : ∀ n, gcv a g1 n t = if t < n then a t else gz
  | 0 => by rw [if_neg (by omega)]; rfl
  | n + 1 => by
    unfold gcv
    rw [gcv_one a t n]
    by_cases h1 : n ≤ t
    · rw [if_pos h1, if_neg (by omega)]
      by_cases h2 : n = t
      · subst h2
        rw [if_pos (by omega), Nat.sub_self]
        unfold ga gm g1 gz; simp
      · rw [if_neg (by omega), g1_hi _ (by omega), gm_zero']; rfl
    · rw [if_neg h1, if_pos (by omega), if_pos (by omega)]
theorem gcv_fold (a : Nat → G) (n : Nat) : ∀ (zs : List G) (b : Nat → G) (t : Nat), gcv a (zs.foldl gnx b) n t = zs.foldl gnx (gcv a b n) t
  | [], b, t => rfl
  | z :: zs, b, t => by
    rw [List.foldl_cons, List.foldl_cons, gcv_fold a n zs (gnx b z) t]
    rw [show gcv a (gnx b z) n = gnx (gcv a b n) z from funext fun t => gcv_nx a b z n t]
/-- The polynomial of zeros is the product of those of two parts. -/
theorem gpol_split (xs ys : List G) (t : Nat) : gcv (gpol xs) (gpol ys) (xs.length + 1) t = gpol (xs ++ ys) t := by
  have e : gcv (gpol xs) g1 (xs.length + 1) = gpol xs := funext fun t => by
    rw [gcv_one]
    split
    · rfl
    · rw [gpol_hi _ _ (by omega)]
  have := gcv_fold (gpol xs) (xs.length + 1) ys g1 t
  rw [e] at this
  unfold gpol at this ⊢
  rw [this, List.foldl_append]

/-- Horner's value, s numbers below the last one. -/
def ghv (p : Nat → G) (z : G) (last : Nat) : Nat → G
  | 0 => p last
  | s + 1 => ga (gm (ghv p z last s) z) (p (last - s - 1))
theorem g_h (P Q z w x y : G) : ga (gm (gs P (gm Q w)) z) (gs x (gm y w)) = gs (ga (gm P z) x) (gm (ga (gm Q z) y) w) := by
  unfold ga gs gm; ext <;> dsimp only <;> grind
theorem ghv_nx (p : Nat → G) (z w : G) (last : Nat) (hp : ∀ k, last < k → p k = gz) : ∀ s, s < last → ghv (gnx p w) z (last + 1) (s + 1) = gs (ghv p z last (s + 1)) (gm (ghv p z last s) w)
  | 0, h => by
    show ga (gm (gnx p w (last + 1)) z) (gnx p w (last + 1 - 0 - 1)) = gs (ga (gm (p last) z) (p (last - 0 - 1))) (gm (p last) w)
    rw [gnx_top hp]
    unfold gnx
    rw [if_neg (by omega), show last + 1 - 0 - 1 = last by omega, show last - 0 - 1 = last - 1 by omega]
    unfold ga gs gm; ext <;> dsimp only <;> omega
  | s + 1, h => by
    have ih := ghv_nx p z w last hp s (by omega)
    unfold ghv
    rw [ih]
    unfold gnx
    rw [if_neg (by omega), show last + 1 - (s + 1) - 1 - 1 = last - (s + 1) - 1 by omega, show last + 1 - (s + 1) - 1 = last - s - 1 by omega]
    have := g_h (ghv p z last (s + 1)) (ghv p z last s) z w (p (last - (s + 1) - 1)) (p (last - s - 1))
    rw [this]

theorem ghv_mul (p : Nat → G) (z w : G) (last : Nat) (hp : ∀ k, last < k → p k = gz) : ghv (gnx p w) z (last + 1) (last + 1) = gm (ghv p z last last) (gs z w) := by
  cases last with
  | zero =>
    show ga (gm (gnx p w 1) z) (gnx p w 0) = gm (p 0) (gs z w)
    have := gnx_top hp w
    rw [Nat.zero_add] at this
    rw [this]
    unfold gnx
    rw [if_pos rfl]
    unfold ga gs gm gz; ext <;> dsimp only <;> grind
  | succ l =>
    have h := ghv_nx p z w (l + 1) hp l (by omega)
    show ga (gm (ghv (gnx p w) z (l + 1 + 1) (l + 1)) z) (gnx p w (l + 1 + 1 - (l + 1) - 1)) = _
    rw [h]
    unfold gnx
    rw [if_pos (by omega), show l + 1 + 1 - (l + 1) - 1 = 0 by omega]
    show _ = gm (ga (gm (ghv p z (l + 1) l) z) (p (l + 1 - l - 1))) (gs z w)
    rw [show l + 1 - l - 1 = 0 by omega]
    show ga (gm (gs (ga (gm (ghv p z (l + 1) l) z) (p (l + 1 - l - 1))) _) z) _ = _
    rw [show l + 1 - l - 1 = 0 by omega]
    unfold ga gs gm gz; ext <;> dsimp only <;> grind
/-- The product of what a number is apart from zeros. -/
def gown (z : G) (zs : List G) : G := zs.foldl (fun x w => gm x (gs z w)) (1, 0)
theorem gown_snoc (z : G) (zs : List G) (w : G) : gown z (zs ++ [w]) = gm (gown z zs) (gs z w) := by simp [gown]
theorem take_snoc (zs : List G) (k : Nat) (h : k < zs.length) : zs.take (k + 1) = zs.take k ++ [zs[k]] := List.take_succ_eq_append_getElem h
theorem gval (z : G) (zs : List G) : ∀ k, k ≤ zs.length → ghv (gpol (zs.take k)) z k k = gown z (zs.take k)
  | 0, _ => rfl
  | k + 1, h => by
    have hl : (zs.take k).length = k := by simp; omega
    rw [take_snoc zs k h, gpol_snoc, gown_snoc, ghv_mul _ _ _ _ (fun j hj => gpol_hi _ _ (by omega)), gval z zs k (by omega)]
theorem gval' (z : G) (zs : List G) : ghv (gpol zs) z zs.length zs.length = gown z zs := by
  have := gval z zs zs.length (Nat.le_refl _)
  rwa [List.take_length] at this
theorem gown_zero (zs : List G) (i : Nat) (h : i < zs.length) : ∀ k, i < k → k ≤ zs.length → gown zs[i] (zs.take k) = gz
  | 0, h1, _ => by omega
  | k + 1, h1, h2 => by
    rw [take_snoc zs k h2, gown_snoc]
    by_cases hk : i = k
    · subst hk
      rw [show gs zs[i] zs[i] = gz by unfold gs gz; simp]
      exact gm_zero' _
    · rw [gown_zero zs i h k (by omega) (by omega), gm_zero]
theorem gown_at (zs : List G) (i : Nat) (h : i < zs.length) : gown zs[i] zs = gz := by
  have := gown_zero zs i h zs.length h (Nat.le_refl _)
  rwa [List.take_length] at this
theorem gown_N {C : Nat} (z : G) (zs : List G) (hz : ∀ w ∈ zs, gN (gs z w) ≤ C) : gN (gown z zs) ≤ C ^ zs.length := by
  have h : ∀ (zs : List G) (x : G) (B : Nat), (∀ w ∈ zs, gN (gs z w) ≤ C) → gN x ≤ B → gN (zs.foldl (fun x w => gm x (gs z w)) x) ≤ B * C ^ zs.length := by
    intro zs
    induction zs with
    | nil => intro x B _ hx; simpa using hx
    | cons w zs ih =>
      intro x B hz hx
      rw [List.foldl_cons, List.length_cons, Nat.pow_succ, show B * (C ^ zs.length * C) = B * C * C ^ zs.length by grind]
      exact ih _ _ (fun y hy => hz y (List.mem_cons_of_mem _ hy)) (Nat.le_trans (gN_gm _ _) (Nat.mul_le_mul hx (hz w List.mem_cons_self)))
  have := h zs (1, 0) 1 hz (by decide)
  rw [Nat.one_mul] at this
  exact this
theorem gm_comm (x y : G) : gm x y = gm y x := by unfold gm; ext <;> dsimp only <;> grind
theorem ghv_N {f : Nat → G} {B C : Nat} (hf : ∀ k, gN (f k) ≤ B) {z : G} (hz : gN z ≤ C) (n : Nat) : ∀ s, gN (ghv f z n s) ≤ B * (1 + C) ^ s
  | 0 => by rw [Nat.pow_zero, Nat.mul_one]; exact hf n
  | s + 1 => by
    have ih := ghv_N hf hz n s
    have h1 : gN (gm (ghv f z n s) z) ≤ B * (1 + C) ^ s * C := Nat.le_trans (gN_gm _ _) (Nat.mul_le_mul ih hz)
    have h2 : B ≤ B * (1 + C) ^ s := Nat.le_mul_of_pos_right _ (Nat.pow_pos (by omega))
    have h3 := gN_ga (gm (ghv f z n s) z) (f (n - s - 1))
    have h4 := hf (n - s - 1)
    show gN (ga (gm (ghv f z n s) z) (f (n - s - 1))) ≤ _
    rw [Nat.pow_succ, ← Nat.mul_assoc, Nat.mul_add, Nat.mul_one]
    omega
theorem gcv_N {a b : Nat → G} {A B : Nat} (ha : ∀ k, gN (a k) ≤ A) (hb : ∀ k, gN (b k) ≤ B) (t : Nat) : ∀ n, gN (gcv a b n t) ≤ n * (A * B)
  | 0 => by show 0 ≤ _; omega
  | n + 1 => by
    have ih := gcv_N ha hb t n
    by_cases h : n ≤ t
    · rw [gcv_yes _ _ h, Nat.add_mul, Nat.one_mul]
      have := gN_ga (gcv a b n t) (gm (a n) (b (t - n)))
      have h2 : gN (gm (a n) (b (t - n))) ≤ A * B := Nat.le_trans (gN_gm _ _) (Nat.mul_le_mul (ha n) (hb _))
      omega
    · rw [gcv_no _ _ h, Nat.add_mul]
      omega
/-- The product while row i is added: j numbers of it are. -/
def stp (a b : Nat → G) (i j t : Nat) : G := if i ≤ t ∧ t < i + j then gcv a b (i + 1) t else gcv a b i t
theorem stp_zero (a b : Nat → G) (i t : Nat) : stp a b i 0 t = gcv a b i t := if_neg (by omega)
theorem ga_zero (x : G) : ga x gz = x := by unfold ga gz; simp
theorem stp_all (a b : Nat → G) (i m t : Nat) (hb : ∀ k, m ≤ k → b k = gz) : stp a b i m t = gcv a b (i + 1) t := by
  unfold stp
  split
  · rfl
  · by_cases h : i ≤ t
    · rw [gcv_yes _ _ h, hb _ (by omega), gm_zero', ga_zero]
    · rw [gcv_no _ _ h]
theorem stp_at (a b : Nat → G) (i j : Nat) : stp a b i (j + 1) (i + j) = ga (stp a b i j (i + j)) (gm (b j) (a i)) := by
  unfold stp
  rw [if_pos (by omega), if_neg (by omega), gcv_yes _ _ (by omega), Nat.add_sub_cancel_left, gm_comm (b j)]
theorem stp_off (a b : Nat → G) (i j t : Nat) (h : t ≠ i + j) : stp a b i (j + 1) t = stp a b i j t := by
  unfold stp
  by_cases h1 : i ≤ t ∧ t < i + j
  · rw [if_pos h1, if_pos (by omega)]
  · rw [if_neg h1, if_neg (by omega)]
theorem stp_N {a b : Nat → G} {A B : Nat} (ha : ∀ k, gN (a k) ≤ A) (hb : ∀ k, gN (b k) ≤ B) (i j t : Nat) : gN (stp a b i j t) ≤ (i + 1) * (A * B) := by
  unfold stp
  split
  · exact gcv_N ha hb t _
  · have := gcv_N ha hb t i
    rw [Nat.add_mul]
    omega
theorem gpol_take (zs : List G) (m : Nat) (t : Nat) (h : m ≤ zs.length) : gcv (gpol (zs.take m)) (gpol (zs.drop m)) (m + 1) t = gpol zs t := by
  have := gpol_split (zs.take m) (zs.drop m) t
  rw [List.take_append_drop, List.length_take, Nat.min_eq_left h] at this
  exact this

end Go.Proofs.Ytbefoiikbbjjfaa.gPoly

namespace Go.Proofs.Ytbefoiikbbjjfaa.gNum
set_option linter.unusedVariables false
open Go Ieee
open Go.Proofs.Ytbefoiikbbjjfaa.floats Go.Proofs.Ytbefoiikbbjjfaa.round Go.Proofs.Ytbefoiikbbjjfaa.values Go.Proofs.Ytbefoiikbbjjfaa.conv Go.Proofs.Ytbefoiikbbjjfaa.float2 Go.Proofs.Ytbefoiikbbjjfaa.float3 Go.Proofs.Ytbefoiikbbjjfaa.phase Go.Proofs.Ytbefoiikbbjjfaa.phasor Go.Proofs.Ytbefoiikbbjjfaa.listC Go.Proofs.Ytbefoiikbbjjfaa.steerNum Go.Proofs.Ytbefoiikbbjjfaa.sineIn Go.Proofs.Ytbefoiikbbjjfaa.polyNum Go.Proofs.Ytbefoiikbbjjfaa.gPoly

/-- x is finite, with the value k. -/
def S32 (x : Nat) (k : Int) : Prop := FinW single x ∧ V single x = k * 2 ^ 149
def S64 (x : Nat) (k : Int) : Prop := FinW double x ∧ V double x = k * 2 ^ D64
theorem pc (d : Nat) : (2 : Int) ^ d = ((2 ^ d : Nat) : Int) := by simp
theorem p1074 : (2 : Int) ^ 149 * 2 ^ 925 = 2 ^ D64 := by
  rw [← Int.pow_add]
  exact congrArg (fun n : Nat => (2 : Int) ^ n) (show 149 + 925 = D64 from rfl)
theorem k_abs (k : Int) (d : Nat) : (k * 2 ^ d).natAbs = k.natAbs * 2 ^ d := by rw [pc, Int.natAbs_mul, Int.natAbs_natCast]
theorem sg_k (k : Int) (d : Nat) : sg (decide (k < 0)) (k.natAbs * 2 ^ d) = k * 2 ^ d := by
  rw [sg_natAbs k _ (Or.inr rfl), pc]
theorem w64 (k : Int) (h : k.natAbs ≤ 2 ^ 52) : ∃ c, S64 c k := by
  obtain ⟨f1, f2⟩ := float_int (decide (k < 0)) k.natAbs h
  refine ⟨_, f1, ?_⟩
  rw [f2, four_q, sg_k]
theorem mv_block32 {L K : Nat} (h1 : 2 ^ 23 ≤ K) (h2 : K < 2 * 2 ^ 23) : mv single (L * 2 ^ 23 + K) = K * 2 ^ L := by
  unfold mv
  rw [bi32]
  have hp : 0 < 2 ^ 23 := Nat.two_pow_pos _
  generalize 2 ^ 23 = B at *
  have hd : (L * B + K) / B = L + 1 := by
    rw [Nat.add_comm, Nat.add_mul_div_right _ _ hp]
    have : K / B = 1 := Nat.div_eq_of_lt_le (by omega) (by omega)
    omega
  have hm : (L * B + K) % B = K - B := by
    rw [Nat.add_comm, Nat.add_mul_mod_self_right, Nat.mod_eq_sub_mod h1, Nat.mod_eq_of_lt (by omega)]
  rw [if_neg (by omega), hd, hm, Nat.add_sub_cancel, ← Nat.add_sub_assoc h1, Nat.add_sub_cancel_left]
theorem w32 (k : Int) (h : k.natAbs < 2 ^ 24) : ∃ c, S32 c k := by
  by_cases h0 : k = 0
  · subst h0
    exact ⟨0, by unfold FinW; decide +kernel, by rw [show V single 0 = 0 by decide +kernel, Int.zero_mul]⟩
  · have hn : k.natAbs ≠ 0 := by omega
    have l1 := Nat.log2_self_le hn
    have l2 : k.natAbs < 2 ^ (k.natAbs.log2 + 1) := Nat.lt_log2_self
    have l3 : k.natAbs.log2 < 24 := (Nat.log2_lt hn).2 h
    generalize hlg : k.natAbs.log2 = g at *
    have K1 : 2 ^ 23 ≤ k.natAbs * 2 ^ (23 - g) := by
      have := Nat.mul_le_mul_right (2 ^ (23 - g)) l1
      rwa [← Nat.pow_add, show g + (23 - g) = 23 by omega] at this
    have K2 : k.natAbs * 2 ^ (23 - g) < 2 * 2 ^ 23 := by
      have := Nat.mul_lt_mul_of_pos_right l2 (Nat.two_pow_pos (23 - g))
      rwa [← Nat.pow_add, show g + 1 + (23 - g) = 23 + 1 by omega, Nat.pow_succ, Nat.mul_comm (2 ^ 23)] at this
    have hm := mv_block32 (L := 126 + g) K1 K2
    rw [Nat.mul_assoc, ← Nat.pow_add, show 23 - g + (126 + g) = 149 by omega] at hm
    generalize hr : (126 + g) * 2 ^ 23 + k.natAbs * 2 ^ (23 - g) = r at *
    have hri : r < single.infRung := by
      rw [inf32, ← hr]
      omega
    have hsw := inf_lt_sw single
    refine ⟨single.word (decide (k < 0)) r, ?_, ?_⟩
    · unfold FinW
      rw [rg_word single _ (by omega)]
      exact hri
    · rw [V_word single _ (by omega), hm, sg_k]
theorem S32.zero : S32 0 0 := ⟨by unfold FinW; decide +kernel, by rw [show V single 0 = 0 by decide +kernel, Int.zero_mul]⟩
theorem S32.one : S32 1065353216 1 := ⟨by unfold FinW; decide +kernel, by rw [show V single 1065353216 = 2 ^ 149 by decide +kernel]; omega⟩
theorem S32.uniq {x : Nat} {a b : Int} (h : S32 x a) (h' : S32 x b) : a = b := by
  have e := h.2.symm.trans h'.2
  rw [pc] at e
  exact Int.eq_of_mul_eq_mul_right (by have := Nat.two_pow_pos 149; omega) e
theorem S32.bs {x : Nat} {k : Int} {e : Nat} (h : S32 x k) (hk : k.natAbs ≤ 2 ^ e) : Bs x e := by
  refine ⟨h.1, ?_⟩
  rw [h.2, k_abs, Nat.pow_add, Nat.mul_comm]
  exact Nat.mul_le_mul_left _ hk
theorem wide_s {x : Nat} {k : Int} (h : S32 x k) (hk : k.natAbs ≤ 2 ^ 24) : floatToFloatBits .f32 x .f64 = some (wd x) ∧ S64 (wd x) k := by
  obtain ⟨r, hr, hrr⟩ := widen_rnd h.1
  have e1 : wd x = r := by unfold wd; rw [hr]; rfl
  obtain ⟨c, c1, c2⟩ := w64 k (Nat.le_trans hk (by decide))
  have e2 := rnd_exact hrr c1 (by rw [c2, h.2, Int.pow_zero, Int.mul_one, Int.mul_assoc, p1074])
  rw [e1]
  exact ⟨hr, hrr.fin, by rw [e2, c2]⟩
theorem nb (e : Nat) : mv single (ps e) * 2 ^ 925 = 2 ^ (D64 + e) := by rw [mv_ps, pow_149]
theorem narrow_s {x : Nat} {k : Int} (h : S64 x k) (hk : k.natAbs < 2 ^ 24) : floatToFloatBits .f64 x .f32 = some (nw x) ∧ S32 (nw x) k := by
  have hb : (V double x).natAbs ≤ mv single (ps 24) * 2 ^ 925 := by
    have e : (V double x).natAbs ≤ 2 ^ (D64 + 24) := by
      rw [h.2, k_abs, Nat.pow_add, Nat.mul_comm]
      exact Nat.mul_le_mul_left _ (Nat.le_of_lt hk)
    exact Nat.le_trans e (Nat.le_of_eq (nb 24).symm)
  obtain ⟨r, hr, hrr⟩ := narrow_rnd h.1 (ps_inf (e := 24) (by omega)) hb
  have e1 : nw x = r := by unfold nw; rw [hr]; rfl
  obtain ⟨c, c1, c2⟩ := w32 k hk
  have e2 := rnd_exact hrr c1 (by rw [c2, h.2, Int.mul_assoc, p1074])
  rw [e1]
  exact ⟨hr, hrr.fin, by rw [e2, c2]⟩
theorem mv52 : mv double (pw (52 + D64)) = 2 ^ 52 * 2 ^ D64 := by rw [mv_pw (by omega), Nat.pow_add]
theorem pw52 : pw (52 + D64) < double.infRung := pw_inf (by rw [D64_is]; omega)
theorem mm4 (a b c d : Int) : a * c * (b * d) = a * b * c * d := by grind
theorem mul_s {x y : Nat} {a b : Int} (hx : S64 x a) (hy : S64 y b) (h : (a * b).natAbs ≤ 2 ^ 52) : floatBits .mul .f64 x y = some (bv .mul x y) ∧ S64 (bv .mul x y) (a * b) := by
  have hv : V double x * V double y = a * b * 2 ^ D64 * 2 ^ D64 := by
    rw [hx.2, hy.2]; exact mm4 _ _ _ _
  obtain ⟨r, hr, hrr, _⟩ := mul_rnd double lpD hx.1 hy.1 pw52 (by
    rw [hv, k_abs, k_abs, mv52]
    exact Nat.mul_le_mul_right _ (Nat.mul_le_mul_right _ h))
  have h' : floatBits .mul .f64 x y = some r := hr
  obtain ⟨e1, e2⟩ := bv_some h'
  obtain ⟨c, c1, c2⟩ := w64 _ h
  have e3 := rnd_exact hrr c1 (by rw [c2, hv])
  rw [e2]
  exact ⟨by rw [← e2]; exact e1, hrr.fin, by rw [e3, c2]⟩
theorem add_s {x y : Nat} {a b : Int} (hx : S64 x a) (hy : S64 y b) (h : (a + b).natAbs ≤ 2 ^ 52) : floatBits .add .f64 x y = some (bv .add x y) ∧ S64 (bv .add x y) (a + b) := by
  have hv : V double x + V double y = (a + b) * 2 ^ D64 := by rw [hx.2, hy.2, Int.add_mul]
  obtain ⟨r, hr, hrr⟩ := add_rnd double hx.1 hy.1 pw52 (by
    rw [hv, k_abs, mv52]
    exact Nat.mul_le_mul_right _ h)
  have h' : floatBits .add .f64 x y = some r := hr
  obtain ⟨e1, e2⟩ := bv_some h'
  obtain ⟨c, c1, c2⟩ := w64 _ h
  have e3 := rnd_exact hrr c1 (by rw [c2, hv, Int.pow_zero, Int.mul_one])
  rw [e2]
  exact ⟨by rw [← e2]; exact e1, hrr.fin, by rw [e3, c2]⟩
theorem sub_s {x y : Nat} {a b : Int} (hx : S64 x a) (hy : S64 y b) (h : (a - b).natAbs ≤ 2 ^ 52) : floatBits .sub .f64 x y = some (bv .sub x y) ∧ S64 (bv .sub x y) (a - b) := by
  have hv : V double x - V double y = (a - b) * 2 ^ D64 := by rw [hx.2, hy.2, Int.sub_mul]
  obtain ⟨r, hr, hrr⟩ := sub_rnd double hx.1 hy.1 pw52 (by
    rw [hv, k_abs, mv52]
    exact Nat.mul_le_mul_right _ h)
  have h' : floatBits .sub .f64 x y = some r := hr
  obtain ⟨e1, e2⟩ := bv_some h'
  obtain ⟨c, c1, c2⟩ := w64 _ h
  have e3 := rnd_exact hrr c1 (by rw [c2, hv, Int.pow_zero, Int.mul_one])
  rw [e2]
  exact ⟨by rw [← e2]; exact e1, hrr.fin, by rw [e3, c2]⟩
def ba32 (x y : Nat) : Nat := (floatBits .add .f32 x y).getD 0
theorem mv24 : mv single (ps 24) = 2 ^ 24 * 2 ^ 149 := by rw [mv_ps, Nat.pow_add, Nat.mul_comm]
theorem add_s32 {x y : Nat} {a b : Int} (hx : S32 x a) (hy : S32 y b) (h : (a + b).natAbs < 2 ^ 24) : floatBits .add .f32 x y = some (ba32 x y) ∧ S32 (ba32 x y) (a + b) := by
  have hv : V single x + V single y = (a + b) * 2 ^ 149 := by rw [hx.2, hy.2, Int.add_mul]
  obtain ⟨r, hr, hrr⟩ := add_rnd single hx.1 hy.1 (ps_inf (e := 24) (by omega)) (by
    rw [hv, k_abs, mv24]
    exact Nat.mul_le_mul_right _ (Nat.le_of_lt h))
  have h' : floatBits .add .f32 x y = some r := hr
  have e2 : ba32 x y = r := by unfold ba32; rw [h']; rfl
  obtain ⟨c, c1, c2⟩ := w32 _ h
  have e3 := rnd_exact hrr c1 (by rw [c2, hv, Int.pow_zero, Int.mul_one])
  rw [e2]
  exact ⟨h', hrr.fin, by rw [e3, c2]⟩
theorem sub_s32 {x y : Nat} {a b : Int} (hx : S32 x a) (hy : S32 y b) (h : (a - b).natAbs < 2 ^ 24) : floatBits .sub .f32 x y = some (bs32 x y) ∧ S32 (bs32 x y) (a - b) := by
  have hv : V single x - V single y = (a - b) * 2 ^ 149 := by rw [hx.2, hy.2, Int.sub_mul]
  obtain ⟨r, hr, hrr⟩ := sub_rnd single hx.1 hy.1 (ps_inf (e := 24) (by omega)) (by
    rw [hv, k_abs, mv24]
    exact Nat.mul_le_mul_right _ (Nat.le_of_lt h))
  have h' : floatBits .sub .f32 x y = some r := hr
  have e2 : bs32 x y = r := by unfold bs32; rw [h']; rfl
  obtain ⟨c, c1, c2⟩ := w32 _ h
  have e3 := rnd_exact hrr c1 (by rw [c2, hv, Int.pow_zero, Int.mul_one])
  rw [e2]
  exact ⟨h', hrr.fin, by rw [e3, c2]⟩
theorem order_s {x y : Nat} {a b : Int} (hx : S32 x a) (hy : S32 y b) : (FloatKind.f32.format.order x y == some .eq) = decide (a = b) := by
  have h := order_fin single hx.1 hy.1
  rw [hx.2, hy.2, compare_scale] at h
  have h' : FloatKind.f32.format.order x y = some (compare a b) := h
  rw [h']
  by_cases e : a = b
  · subst e
    simp
  · have : compare a b ≠ .eq := fun h => e (Int.compare_eq_eq.1 h)
    simp [e, this]

/-- Both parts. -/
def Gi (x : Nat × Nat) (g : G) : Prop := S32 x.1 g.1 ∧ S32 x.2 g.2
theorem Gi.zero : Gi (0, 0) gz := ⟨S32.zero, S32.zero⟩
theorem Gi.one : Gi (1065353216, 0) (1, 0) := ⟨S32.one, S32.zero⟩
theorem Gi.uniq {x : Nat × Nat} {a b : G} (h : Gi x a) (h' : Gi x b) : a = b := Prod.ext (h.1.uniq h'.1) (h.2.uniq h'.2)
theorem Gi.cb {x : Nat × Nat} {g : G} {e : Nat} (h : Gi x g) (hg : gN g ≤ 2 ^ e) : Cb x e := by
  unfold gN at hg
  exact ⟨h.1.bs (by omega), h.2.bs (by omega)⟩
theorem abs_mul_le {a b : Int} {m n : Nat} (h1 : a.natAbs ≤ m) (h2 : b.natAbs ≤ n) : (a * b).natAbs ≤ m * n := by
  rw [Int.natAbs_mul]; exact Nat.mul_le_mul h1 h2
theorem mul_g {x y : Nat × Nat} {a b : G} (hx : Gi x a) (hy : Gi y b) (h1 : gN a < 2 ^ 24) (h2 : gN b < 2 ^ 24) (h : gN a * gN b < 2 ^ 24) : MulOk x y ∧ Gi (mulw x y) (gm a b) := by
  have hb := gN_gm a b
  have t1 : (a.1 * b.1).natAbs ≤ gN a * gN b := abs_mul_le (by unfold gN; omega) (by unfold gN; omega)
  have t2 : (a.2 * b.2).natAbs ≤ gN a * gN b := abs_mul_le (by unfold gN; omega) (by unfold gN; omega)
  have t3 : (a.1 * b.2).natAbs ≤ gN a * gN b := abs_mul_le (by unfold gN; omega) (by unfold gN; omega)
  have t4 : (a.2 * b.1).natAbs ≤ gN a * gN b := abs_mul_le (by unfold gN; omega) (by unfold gN; omega)
  have hbig : (2 : Nat) ^ 24 ≤ 2 ^ 52 := by decide
  have g1 : (a.1 * b.1 - a.2 * b.2).natAbs < 2 ^ 24 := by unfold gN gm at hb; dsimp only at hb; unfold gN at h; omega
  have g2 : (a.1 * b.2 + a.2 * b.1).natAbs < 2 ^ 24 := by unfold gN gm at hb; dsimp only at hb; unfold gN at h; omega
  unfold gN at h1 h2
  obtain ⟨u1, v1⟩ := wide_s hx.1 (by omega)
  obtain ⟨u2, v2⟩ := wide_s hx.2 (by omega)
  obtain ⟨u3, v3⟩ := wide_s hy.1 (by omega)
  obtain ⟨u4, v4⟩ := wide_s hy.2 (by omega)
  obtain ⟨m1, p1⟩ := mul_s v1 v3 (by omega)
  obtain ⟨m2, p2⟩ := mul_s v2 v4 (by omega)
  obtain ⟨m3, p3⟩ := mul_s v1 v4 (by omega)
  obtain ⟨m4, p4⟩ := mul_s v2 v3 (by omega)
  obtain ⟨r1, r2⟩ := sub_s p1 p2 (by omega)
  obtain ⟨i1, i2⟩ := add_s p3 p4 (by omega)
  obtain ⟨n1, n2⟩ := narrow_s r2 g1
  obtain ⟨n3, n4⟩ := narrow_s i2 g2
  exact ⟨⟨u1, u2, u3, u4, m1, m2, m3, m4, r1, i1, n1, n3⟩, n2, n4⟩
def addw (x y : Nat × Nat) : Nat × Nat := (ba32 x.1 y.1, ba32 x.2 y.2)
theorem add_g {x y : Nat × Nat} {a b : G} (hx : Gi x a) (hy : Gi y b) (h : gN (ga a b) < 2 ^ 24) : floatBits .add .f32 x.1 y.1 = some (addw x y).1 ∧ floatBits .add .f32 x.2 y.2 = some (addw x y).2 ∧ Gi (addw x y) (ga a b) := by
  unfold gN ga at h
  dsimp only at h
  obtain ⟨a1, a2⟩ := add_s32 hx.1 hy.1 (by omega)
  obtain ⟨b1, b2⟩ := add_s32 hx.2 hy.2 (by omega)
  exact ⟨a1, b1, a2, b2⟩
theorem sub_g {x y : Nat × Nat} {a b : G} (hx : Gi x a) (hy : Gi y b) (h : gN (gs a b) < 2 ^ 24) : floatBits .sub .f32 x.1 y.1 = some (subw x y).1 ∧ floatBits .sub .f32 x.2 y.2 = some (subw x y).2 ∧ Gi (subw x y) (gs a b) := by
  unfold gN gs at h
  dsimp only at h
  obtain ⟨a1, a2⟩ := sub_s32 hx.1 hy.1 (by omega)
  obtain ⟨b1, b2⟩ := sub_s32 hx.2 hy.2 (by omega)
  exact ⟨a1, b1, a2, b2⟩

/-- The words of a list have these values. -/
def Pg (l : List (Nat × Nat)) (f : Nat → G) : Prop := ∀ k, Gi (l.getD k (0, 0)) (f k)
theorem getD_out (l : List (Nat × Nat)) (k : Nat) (h : l.length ≤ k) : l.getD k (0, 0) = (0, 0) := by simp [List.getD, h]
theorem Pg.out {l : List (Nat × Nat)} {f : Nat → G} (h : Pg l f) (k : Nat) (hk : l.length ≤ k) : f k = gz := by
  have := h k
  rw [getD_out l k hk] at this
  exact this.uniq Gi.zero
theorem Pg.nx {l : List (Nat × Nat)} {f : Nat → G} {w : Nat × Nat} {z : G} {B C : Nat} (h : Pg l f) (hw : Gi w z) (hB : ∀ k, gN (f k) ≤ B) (hC : gN z ≤ C) (hb : B + B * C < 2 ^ 24) (hc : C < 2 ^ 24) : Pg (nx l w) (gnx f z) := by
  intro k
  by_cases hk : k ≤ l.length
  · rw [nx_at l w k hk]
    unfold nxk
    have hp : gN (f k) * gN z ≤ B * C := Nat.mul_le_mul (hB k) hC
    obtain ⟨_, m2⟩ := mul_g (h k) hw (Nat.lt_of_le_of_lt (hB k) (by omega)) (by omega) (by omega)
    have hbd := gnx_N hB hC k
    have hprev : Gi (if k = 0 then ((0 : Nat), (0 : Nat)) else l.getD (k - 1) (0, 0)) (if k = 0 then gz else f (k - 1)) := by
      split
      · exact Gi.zero
      · exact h _
    exact (sub_g hprev m2 (Nat.lt_of_le_of_lt hbd hb)).2.2
  · rw [getD_out _ _ (by rw [nx_len]; omega)]
    have e : gnx f z k = gz := by
      unfold gnx
      rw [if_neg (by omega), h.out (k - 1) (by omega), h.out k (by omega), gm_zero]
      rfl
    rw [e]
    exact Gi.zero
/-- A number with integers as parts, as words. -/
def gw (z : G) : Nat × Nat := (floatOfInt .f32 z.1, floatOfInt .f32 z.2)
def Small2 (z : G) : Prop := -2 ≤ z.1 ∧ z.1 ≤ 2 ∧ -2 ≤ z.2 ∧ z.2 ≤ 2
theorem i32_ok (k : Int) (h1 : -2 ≤ k) (h2 : k ≤ 2) : S32 (floatOfInt .f32 k) k := by
  have h : k = -2 ∨ k = -1 ∨ k = 0 ∨ k = 1 ∨ k = 2 := by omega
  unfold S32 FinW
  rcases h with rfl | rfl | rfl | rfl | rfl <;> exact ⟨by decide +kernel, by decide +kernel⟩
theorem gw_ok {z : G} (h : Small2 z) : Gi (gw z) z := ⟨i32_ok _ h.1 h.2.1, i32_ok _ h.2.2.1 h.2.2.2⟩
theorem sm_N {z : G} (h : Small2 z) : gN z ≤ 4 := by unfold Small2 at h; unfold gN; omega
theorem pol_g : ∀ (zs : List G) (l : List (Nat × Nat)) (f : Nat → G) (B : Nat), (∀ z ∈ zs, Small2 z) → Pg l f → (∀ k, gN (f k) ≤ B) → B * 5 ^ zs.length < 2 ^ 24 → Pg ((zs.map gw).foldl polyNum.nx l) (zs.foldl gnx f)
  | [], l, f, B, _, hl, _, _ => hl
  | z :: zs, l, f, B, hz, hl, hB, hb => by
    rw [List.map_cons, List.foldl_cons, List.foldl_cons]
    rw [List.length_cons, Nat.pow_succ, Nat.mul_comm (5 ^ _), ← Nat.mul_assoc] at hb
    have hs := hz z List.mem_cons_self
    have hb5 : B * 5 ≤ B * 5 * 5 ^ zs.length := Nat.le_mul_of_pos_right _ (Nat.pow_pos (by omega))
    refine pol_g zs _ _ (B * 5) (fun y hy => hz y (List.mem_cons_of_mem _ hy)) (hl.nx (gw_ok hs) hB (sm_N hs) (by omega) (by decide)) (fun k => ?_) hb
    have := gnx_N hB (sm_N hs) k
    omega
theorem pg_one : Pg [(1065353216, 0)] g1 := fun k => by
  cases k with
  | zero => exact Gi.one
  | succ k => exact Gi.zero
/-- The polynomial of zeros has the numbers that it has exactly. -/
theorem pol_pg (zs : List G) (hz : ∀ z ∈ zs, Small2 z) (hn : zs.length ≤ 5) : Pg (pol (zs.map gw)) (gpol zs) := by
  have hp : 5 ^ zs.length ≤ 5 ^ 5 := Nat.pow_le_pow_right (by omega) hn
  exact pol_g zs _ g1 1 hz pg_one (fun k => by unfold g1; split <;> decide) (by omega)
theorem gpol_5 (zs : List G) (hz : ∀ z ∈ zs, Small2 z) (k : Nat) : gN (gpol zs k) ≤ 5 ^ zs.length := gpol_N (C := 4) (fun z h => sm_N (hz z h)) k

end Go.Proofs.Ytbefoiikbbjjfaa.gNum

namespace Go.Proofs.Ytbefoiikbbjjfaa.rq
set_option linter.unusedVariables false
open Go Ieee
open Go.Proofs.Ytbefoiikbbjjfaa.floats Go.Proofs.Ytbefoiikbbjjfaa.round Go.Proofs.Ytbefoiikbbjjfaa.values Go.Proofs.Ytbefoiikbbjjfaa.conv Go.Proofs.Ytbefoiikbbjjfaa.float2 Go.Proofs.Ytbefoiikbbjjfaa.float3 Go.Proofs.Ytbefoiikbbjjfaa.phase Go.Proofs.Ytbefoiikbbjjfaa.sine Go.Proofs.Ytbefoiikbbjjfaa.phasor Go.Proofs.Ytbefoiikbbjjfaa.listC Go.Proofs.Ytbefoiikbbjjfaa.steerNum Go.Proofs.Ytbefoiikbbjjfaa.sineIn Go.Proofs.Ytbefoiikbbjjfaa.polyNum Go.Proofs.Ytbefoiikbbjjfaa.gNum

/-- What is rounded moves by at most one mesh of a grid that the format has. -/
theorem rnd_grid (f : Format) {num : Int} {d r L B : Nat} (h : Rnd f num d r) (grid : ∀ k : Int, k.natAbs ≤ B → ∃ c, FinW f c ∧ V f c = k * 2 ^ L) (hb : num.natAbs < B * 2 ^ (L + d)) : (V f r * 2 ^ d - num).natAbs ≤ 2 ^ (L + d) := by
  have hS : (0 : Int) < ((2 ^ (L + d) : Nat) : Int) := Int.natCast_pos.2 (Nat.two_pow_pos _)
  have e : ∀ k : Int, k * 2 ^ L * 2 ^ d = k * ((2 ^ (L + d) : Nat) : Int) := fun k => by
    rw [pc L, pc d, Int.mul_assoc, ← Int.natCast_mul, ← Nat.pow_add]
  have hb2 : (num.natAbs : Int) < (B : Int) * ((2 ^ (L + d) : Nat) : Int) := by
    rw [← Int.natCast_mul]
    exact Int.ofNat_lt.2 hb
  generalize 2 ^ (L + d) = S at *
  have k1 := Int.mul_ediv_add_emod num S
  have k2 := Int.emod_nonneg num (show (S : Int) ≠ 0 by omega)
  have k3 := Int.emod_lt_of_pos num hS
  rw [Int.mul_comm] at k1
  generalize num / S = k at *
  generalize num % S = m at *
  have u1 : k < B := by
    rcases Int.lt_or_le k B with h' | h'
    · exact h'
    · have := Int.mul_le_mul_of_nonneg_right h' (Int.le_of_lt hS)
      omega
  have u2 : -(B : Int) ≤ k := by
    rcases Int.lt_or_le k (-(B : Int)) with h' | h'
    · have := Int.mul_le_mul_of_nonneg_right (show k ≤ -(B : Int) - 1 by omega) (Int.le_of_lt hS)
      rw [Int.sub_mul, Int.neg_mul] at this
      omega
    · exact h'
  obtain ⟨c, c1, c2⟩ := grid k (by omega)
  obtain ⟨c', c1', c2'⟩ := grid (k + 1) (by omega)
  have hd : (0 : Int) < 2 ^ d := by rw [pc]; exact Int.natCast_pos.2 (Nat.two_pow_pos _)
  have h1 := h.ge c c1 (by rw [c2, e]; omega)
  have h2 := h.le c' c1' (by rw [c2', e, Int.add_mul]; omega)
  have h1' := Int.mul_le_mul_of_nonneg_right h1 (Int.le_of_lt hd)
  have h2' := Int.mul_le_mul_of_nonneg_right h2 (Int.le_of_lt hd)
  rw [c2, e] at h1'
  rw [c2', e, Int.add_mul] at h2'
  omega
theorem grid32 (L : Nat) (h1 : 23 ≤ L) (h2 : L ≤ 225) : ∀ k : Int, k.natAbs ≤ 2 ^ 23 → ∃ c, FinW single c ∧ V single c = k * 2 ^ L := by
  intro k hk
  by_cases h0 : k = 0
  · subst h0
    exact ⟨0, by unfold FinW; decide +kernel, by rw [show V single 0 = 0 by decide +kernel, Int.zero_mul]⟩
  · have hn : k.natAbs ≠ 0 := by omega
    have l1 := Nat.log2_self_le hn
    have l2 : k.natAbs < 2 ^ (k.natAbs.log2 + 1) := Nat.lt_log2_self
    have l3 : k.natAbs.log2 < 24 := (Nat.log2_lt hn).2 (by omega)
    generalize hlg : k.natAbs.log2 = g at *
    have K1 : 2 ^ 23 ≤ k.natAbs * 2 ^ (23 - g) := by
      have := Nat.mul_le_mul_right (2 ^ (23 - g)) l1
      rwa [← Nat.pow_add, show g + (23 - g) = 23 by omega] at this
    have K2 : k.natAbs * 2 ^ (23 - g) < 2 * 2 ^ 23 := by
      have := Nat.mul_lt_mul_of_pos_right l2 (Nat.two_pow_pos (23 - g))
      rwa [← Nat.pow_add, show g + 1 + (23 - g) = 23 + 1 by omega, Nat.pow_succ, Nat.mul_comm (2 ^ 23)] at this
    have hm := mv_block32 (L := L - (23 - g)) K1 K2
    rw [Nat.mul_assoc, ← Nat.pow_add, show 23 - g + (L - (23 - g)) = L by omega] at hm
    generalize hr : (L - (23 - g)) * 2 ^ 23 + k.natAbs * 2 ^ (23 - g) = r at *
    have hri : r < single.infRung := by
      rw [inf32, ← hr]
      omega
    have hsw := inf_lt_sw single
    refine ⟨single.word (decide (k < 0)) r, ?_, ?_⟩
    · unfold FinW
      rw [rg_word single _ (by omega)]
      exact hri
    · rw [V_word single _ (by omega), hm, sg_k]
theorem grid64 (d : Nat) (h1 : 52 ≤ d) (h2 : d ≤ 1900) : ∀ k : Int, k.natAbs ≤ 2 ^ 51 → ∃ c, FinW double c ∧ V double c = k * 2 ^ d := by
  intro k hk
  by_cases h0 : k = 0
  · subst h0
    exact ⟨0, F_zero, by rw [V_zero, Int.zero_mul]⟩
  · have hn : k.natAbs ≠ 0 := by omega
    have l1 := Nat.log2_self_le hn
    have l2 : k.natAbs < 2 ^ (k.natAbs.log2 + 1) := Nat.lt_log2_self
    have l3 : k.natAbs.log2 < 53 := (Nat.log2_lt hn).2 (by omega)
    generalize hlg : k.natAbs.log2 = g at *
    have K1 : 2 ^ 52 ≤ k.natAbs * 2 ^ (52 - g) := by
      have := Nat.mul_le_mul_right (2 ^ (52 - g)) l1
      rwa [← Nat.pow_add, show g + (52 - g) = 52 by omega] at this
    have K2 : k.natAbs * 2 ^ (52 - g) < 2 * 2 ^ 52 := by
      have := Nat.mul_lt_mul_of_pos_right l2 (Nat.two_pow_pos (52 - g))
      rwa [← Nat.pow_add, show g + 1 + (52 - g) = 52 + 1 by omega, Nat.pow_succ, Nat.mul_comm (2 ^ 52)] at this
    have hm := mv_block (L := d - (52 - g)) K1 K2
    rw [Nat.mul_assoc, ← Nat.pow_add, show 52 - g + (d - (52 - g)) = d by omega] at hm
    generalize hr : (d - (52 - g)) * 2 ^ 52 + k.natAbs * 2 ^ (52 - g) = r at *
    have hri : r < double.infRung := by
      rw [inf64, ← hr]
      have : d - (52 - g) ≤ 1900 := by omega
      omega
    have hsw := inf_lt_sw double
    refine ⟨double.word (decide (k < 0)) r, ?_, ?_⟩
    · unfold FinW
      rw [rg_word double _ (by omega)]
      exact hri
    · rw [V_word double _ (by omega), hm, sg_k]

/-! ## as fractions -/
def two (e : Nat) : Rat := ((2 ^ e : Nat) : Rat)
theorem two_pos (e : Nat) : 0 < two e := by
  have := Nat.two_pow_pos e
  unfold two
  exact_mod_cast this
theorem two_add (a b : Nat) : two (a + b) = two a * two b := by
  unfold two
  rw [Nat.pow_add]
  push_cast
  rfl
def r32 (x : Nat) : Rat := (V single x : Rat) / two 149
def r64 (x : Nat) : Rat := (V double x : Rat) / two D64
/-- a is at most e away from b. -/
def nr (a b e : Rat) : Prop := a - b ≤ e ∧ b - a ≤ e
theorem nr_of {x y : Int} {P Q : Rat} {n : Nat} (h : (x - y).natAbs ≤ n) (hP : 0 < P) (e : (n : Rat) ≤ Q * P) : nr ((x : Rat) / P) ((y : Rat) / P) Q := by
  have h1 : x - y ≤ n := by omega
  have h2 : y - x ≤ n := by omega
  have a1 : (x : Rat) - (y : Rat) ≤ (n : Rat) := by exact_mod_cast h1
  have a2 : (y : Rat) - (x : Rat) ≤ (n : Rat) := by exact_mod_cast h2
  have b1 : (x : Rat) - y ≤ Q * P := Rat.le_trans a1 e
  have b2 : (y : Rat) - x ≤ Q * P := Rat.le_trans a2 e
  have hi := Rat.le_of_lt (Rat.inv_pos.2 hP)
  have c1 := Rat.mul_le_mul_of_nonneg_right b1 hi
  have c2 := Rat.mul_le_mul_of_nonneg_right b2 hi
  have hq : Q * P * P⁻¹ = Q := by grind
  rw [hq] at c1 c2
  unfold nr
  rw [Rat.div_def, Rat.div_def]
  constructor
  · grind
  · grind

theorem cast_pow (a : Int) (d : Nat) : ((a * 2 ^ d : Int) : Rat) = (a : Rat) * two d := by
  rw [pc d]
  unfold two
  push_cast
  rfl
theorem two_D : two D64 = two 149 * two 925 := by rw [← two_add, show 149 + 925 = D64 from rfl]
theorem r32_wide (x : Nat) : r32 x = ((V single x * 2 ^ 925 : Int) : Rat) / two D64 := by
  unfold r32
  rw [cast_pow, two_D]
  have := two_pos 149
  have := two_pos 925
  grind
theorem mesh (e k a b : Nat) (h : a = e + b) : ((2 ^ a : Nat) : Rat) ≤ two e / two k * two (k + b) := by
  have h1 : ((2 ^ a : Nat) : Rat) = two e * two b := by rw [← two_add, ← h]; rfl
  rw [h1, two_add]
  have := two_pos k
  have e2 : two e / two k * (two k * two b) = two e * two b := by grind
  rw [e2]
  exact Rat.le_refl
theorem read32 {x : Nat} (h : FinW single x) : ∃ (k : Int) (e : Nat), k.natAbs < 2 ^ 24 ∧ e ≤ 254 ∧ V single x = k * 2 ^ e := by
  have hV : V single x = sg (sgn single x) (mv single (rg single x)) := rfl
  have hr : rg single x < 255 * 2 ^ 23 := by have := h; unfold FinW at this; rwa [inf32p] at this
  unfold mv at hV
  rw [bi32p] at hV
  by_cases h1 : rg single x < 2 ^ 23
  · rw [if_pos h1] at hV
    exact ⟨sg (sgn single x) (rg single x), 0, by rw [sg_abs]; omega, by omega, by rw [hV]; simp⟩
  · rw [if_neg h1] at hV
    refine ⟨sg (sgn single x) (2 ^ 23 + rg single x % 2 ^ 23), rg single x / 2 ^ 23 - 1, ?_, ?_, ?_⟩
    · rw [sg_abs]
      have := Nat.mod_lt (rg single x) (show 0 < 2 ^ 23 by decide)
      omega
    · have : rg single x / 2 ^ 23 < 255 := Nat.div_lt_of_lt_mul (by omega)
      omega
    · rw [hV, pc, sg_mul]
theorem pow_split (k : Int) (g d : Nat) : k * 2 ^ (g + d) * 2 ^ 0 = k * 2 ^ g * 2 ^ d := by
  rw [Int.pow_zero, Int.mul_one, Int.pow_add]
  exact (Int.mul_assoc _ _ _).symm
/-- Widening is exact. -/
theorem wd_r {x : Nat} (h : FinW single x) : FinW double (wd x) ∧ r64 (wd x) = r32 x := by
  obtain ⟨r, hr, hrr⟩ := widen_rnd h
  have e : wd x = r := by unfold wd; rw [hr]; rfl
  obtain ⟨k, g, k1, k2, k3⟩ := read32 h
  obtain ⟨c, c1, c2⟩ := grid64 (g + 925) (by omega) (by omega) k (by omega)
  have hv : V double c * 2 ^ 0 = V single x * 2 ^ 925 := by rw [c2, k3, pow_split]
  have hx := rnd_exact hrr c1 hv
  refine ⟨by rw [e]; exact hrr.fin, ?_⟩
  rw [r32_wide]
  unfold r64
  rw [e, hx, ← hv]
  simp
/-- Narrowing. -/
theorem nw_r {x e : Nat} (h : Bd x (D64 + e)) (he : e ≤ 90) : Bs (nw x) e ∧ nr (r32 (nw x)) (r64 x) (two e / two 22) := by
  obtain ⟨e1, e2⟩ := nw_is h (by omega)
  refine ⟨e2, ?_⟩
  obtain ⟨r, hr, hrr⟩ := narrow_rnd h.1 (hi := ps e) (ps_inf (by omega)) (by rw [nb]; exact h.2)
  have er : r = nw x := by rw [e1] at hr; exact (Option.some.inj hr).symm
  subst er
  have hg := rnd_grid single (L := 127 + e) hrr (grid32 (127 + e) (by omega) (by omega)) (by
    refine Nat.lt_of_le_of_lt h.2 ?_
    rw [← Nat.pow_add]
    exact Nat.pow_lt_pow_right (by omega) (by rw [D64_is]; omega))
  rw [r32_wide]
  unfold r64
  refine nr_of hg (two_pos _) ?_
  have := mesh e 22 (127 + e + 925) 1052 (by omega)
  rwa [show 22 + 1052 = D64 from rfl] at this

/-! ## operations of 32 bits -/
theorem meshlt (num : Int) (a b c : Nat) (h : num.natAbs ≤ 2 ^ a) (hab : a < b + c) : num.natAbs < 2 ^ b * 2 ^ c := by
  refine Nat.lt_of_le_of_lt h ?_
  rw [← Nat.pow_add]
  exact Nat.pow_lt_pow_right (by omega) hab
theorem abs_add {x y : Int} {e : Nat} (hx : x.natAbs ≤ 2 ^ e) (hy : y.natAbs ≤ 2 ^ e) : (x + y).natAbs ≤ 2 ^ (e + 1) := by
  rw [Nat.pow_succ]; omega
theorem abs_sub {x y : Int} {e : Nat} (hx : x.natAbs ≤ 2 ^ e) (hy : y.natAbs ≤ 2 ^ e) : (x - y).natAbs ≤ 2 ^ (e + 1) := by
  rw [Nat.pow_succ]; omega
theorem abs_mul {x y : Int} {a b : Nat} (hx : x.natAbs ≤ 2 ^ a) (hy : y.natAbs ≤ 2 ^ b) : (x * y).natAbs ≤ 2 ^ (a + b) := by
  rw [Int.natAbs_mul, Nat.pow_add]; exact Nat.mul_le_mul hx hy
theorem near32 {num : Int} {r e d : Nat} (h : Rnd single num d r) (hb : num.natAbs ≤ 2 ^ (149 + d + e)) (he : e ≤ 90) : Bs r e ∧ nr (r32 r) ((num : Rat) / (two 149 * two d)) (two e / two 22) := by
  refine ⟨rnd_bs h (by omega) (Nat.le_trans hb (Nat.le_of_eq (by rw [← Nat.pow_add]; congr 1; omega))), ?_⟩
  have hg := rnd_grid single (L := 127 + e) h (grid32 (127 + e) (by omega) (by omega)) (meshlt num _ 23 _ hb (by omega))
  have hm := mesh e 22 (127 + e + d) (127 + d) (by omega)
  rw [show 22 + (127 + d) = 149 + d by omega, two_add 149] at hm
  have hn := nr_of hg (P := two 149 * two d) (Rat.mul_pos (two_pos _) (two_pos _)) hm
  have e1 : ((V single r * 2 ^ d : Int) : Rat) / (two 149 * two d) = r32 r := by
    rw [cast_pow]
    unfold r32
    have := two_pos 149
    have := two_pos d
    grind
  rwa [e1] at hn
theorem own_r64 (r d : Nat) : ((V double r * 2 ^ d : Int) : Rat) / (two D64 * two d) = r64 r := by
  rw [cast_pow]
  unfold r64
  have := two_pos D64
  have := two_pos d
  grind
theorem prod_r32 (x y : Nat) : ((V single x * V single y : Int) : Rat) / (two 149 * two 149) = r32 x * r32 y := by
  unfold r32
  push_cast
  have := two_pos 149
  grind
theorem near64 {num : Int} {r e d : Nat} (h : Rnd double num d r) (hb : num.natAbs ≤ 2 ^ (D64 + d + e)) (he : e ≤ 200) : Bd r (D64 + e) ∧ nr (r64 r) ((num : Rat) / (two D64 * two d)) (two e / two 50) := by
  have hD := D64_is
  refine ⟨rnd_bd h (by omega) (by omega) (Nat.le_trans hb (Nat.le_of_eq (by rw [← Nat.pow_add]; congr 1; omega))), ?_⟩
  have hg := rnd_grid double (L := 1024 + e) h (grid64 (1024 + e) (by omega) (by omega)) (meshlt num _ 51 _ hb (by omega))
  have hm := mesh e 50 (1024 + e + d) (1024 + d) (by omega)
  rw [show 50 + (1024 + d) = D64 + d by omega, two_add D64] at hm
  have hn := nr_of hg (P := two D64 * two d) (Rat.mul_pos (two_pos _) (two_pos _)) hm
  rwa [own_r64 r d] at hn
theorem two_zero : two 0 = 1 := by unfold two; rfl
theorem add32 {x y e : Nat} (hx : Bs x e) (hy : Bs y e) (he : e ≤ 89) : floatBits .add .f32 x y = some (ba32 x y) ∧ Bs (ba32 x y) (e + 1) ∧ nr (r32 (ba32 x y)) (r32 x + r32 y) (two (e + 1) / two 22) := by
  have hb := abs_add hx.2 hy.2
  obtain ⟨r, hr, hrr⟩ := add_rnd single hx.1 hy.1 (hi := ps (e + 1)) (ps_inf (by omega)) (by rw [mv_ps]; exact hb)
  have er : ba32 x y = r := by unfold ba32; rw [show floatBits .add .f32 x y = some r from hr]; rfl
  obtain ⟨b1, b2⟩ := near32 (e := e + 1) hrr (by rw [show 149 + 0 + (e + 1) = 149 + e + 1 by omega]; exact hb) (by omega)
  rw [er]
  refine ⟨hr, b1, ?_⟩
  have e2 : ((V single x + V single y : Int) : Rat) / (two 149 * two 0) = r32 x + r32 y := by
    unfold r32
    rw [two_zero]
    push_cast
    have := two_pos 149
    grind
  rwa [e2] at b2
theorem sub32 {x y e : Nat} (hx : Bs x e) (hy : Bs y e) (he : e ≤ 89) : floatBits .sub .f32 x y = some (bs32 x y) ∧ Bs (bs32 x y) (e + 1) ∧ nr (r32 (bs32 x y)) (r32 x - r32 y) (two (e + 1) / two 22) := by
  have hb := abs_sub hx.2 hy.2
  obtain ⟨r, hr, hrr⟩ := sub_rnd single hx.1 hy.1 (hi := ps (e + 1)) (ps_inf (by omega)) (by rw [mv_ps]; exact hb)
  have er : bs32 x y = r := by unfold bs32; rw [show floatBits .sub .f32 x y = some r from hr]; rfl
  obtain ⟨b1, b2⟩ := near32 (e := e + 1) hrr (by rw [show 149 + 0 + (e + 1) = 149 + e + 1 by omega]; exact hb) (by omega)
  rw [er]
  refine ⟨hr, b1, ?_⟩
  have e2 : ((V single x - V single y : Int) : Rat) / (two 149 * two 0) = r32 x - r32 y := by
    unfold r32
    rw [two_zero]
    push_cast
    have := two_pos 149
    grind
  rwa [e2] at b2
def bm32 (x y : Nat) : Nat := (floatBits .mul .f32 x y).getD 0
theorem mul32 {x y a b : Nat} (hx : Bs x a) (hy : Bs y b) (he : a + b ≤ 90) : floatBits .mul .f32 x y = some (bm32 x y) ∧ Bs (bm32 x y) (a + b) ∧ nr (r32 (bm32 x y)) (r32 x * r32 y) (two (a + b) / two 22) := by
  have hb := abs_mul hx.2 hy.2
  obtain ⟨r, hr, hrr, _⟩ := mul_rnd single (D := 149) (by rw [lp32]; rfl) hx.1 hy.1 (hi := ps (a + b)) (ps_inf (by omega)) (by rw [mv_ps, ← Nat.pow_add, show 149 + (a + b) + 149 = 149 + a + (149 + b) by omega]; exact hb)
  have er : bm32 x y = r := by unfold bm32; rw [show floatBits .mul .f32 x y = some r from hr]; rfl
  obtain ⟨b1, b2⟩ := near32 (e := a + b) hrr (by rw [show 149 + 149 + (a + b) = 149 + a + (149 + b) by omega]; exact hb) (by omega)
  rw [er]
  refine ⟨hr, b1, ?_⟩
  rwa [prod_r32] at b2

/-! ## operations of 64 bits -/
theorem mul64 {x y a b : Nat} (hx : Bd x (D64 + a)) (hy : Bd y (D64 + b)) (he : a + b ≤ 200) : floatBits .mul .f64 x y = some (bv .mul x y) ∧ Bd (bv .mul x y) (D64 + (a + b)) ∧ nr (r64 (bv .mul x y)) (r64 x * r64 y) (two (a + b) / two 50) := by
  have hD := D64_is
  have hb := abs_mul hx.2 hy.2
  obtain ⟨r, hr, hrr, _⟩ := mul_rnd double (D := D64) lpD hx.1 hy.1 (hi := pw (D64 + (a + b))) (pw_inf (by omega)) (by rw [mv_pw (by omega), ← Nat.pow_add, show D64 + (a + b) + D64 = D64 + a + (D64 + b) by omega]; exact hb)
  have er := (bv_some (show floatBits .mul .f64 x y = some r from hr)).2
  obtain ⟨b1, b2⟩ := near64 (e := a + b) hrr (by rw [show D64 + D64 + (a + b) = D64 + a + (D64 + b) by omega]; exact hb) (by omega)
  rw [er]
  refine ⟨hr, b1, ?_⟩
  have e2 : ((V double x * V double y : Int) : Rat) / (two D64 * two D64) = r64 x * r64 y := by
    unfold r64
    push_cast
    have := two_pos D64
    grind
  rwa [e2] at b2
theorem add64 {x y e : Nat} (hx : Bd x (D64 + e)) (hy : Bd y (D64 + e)) (he : e ≤ 199) : floatBits .add .f64 x y = some (bv .add x y) ∧ Bd (bv .add x y) (D64 + (e + 1)) ∧ nr (r64 (bv .add x y)) (r64 x + r64 y) (two (e + 1) / two 50) := by
  have hD := D64_is
  have hb := abs_add hx.2 hy.2
  obtain ⟨r, hr, hrr⟩ := add_rnd double hx.1 hy.1 (hi := pw (D64 + e + 1)) (pw_inf (by omega)) (by rw [mv_pw (by omega)]; exact hb)
  have er := (bv_some (show floatBits .add .f64 x y = some r from hr)).2
  obtain ⟨b1, b2⟩ := near64 (e := e + 1) hrr (by rw [show D64 + 0 + (e + 1) = D64 + e + 1 by omega]; exact hb) (by omega)
  rw [er]
  refine ⟨hr, b1, ?_⟩
  have e2 : ((V double x + V double y : Int) : Rat) / (two D64 * two 0) = r64 x + r64 y := by
    unfold r64
    rw [two_zero]
    push_cast
    have := two_pos D64
    grind
  rwa [e2] at b2
theorem sub64 {x y e : Nat} (hx : Bd x (D64 + e)) (hy : Bd y (D64 + e)) (he : e ≤ 199) : floatBits .sub .f64 x y = some (bv .sub x y) ∧ Bd (bv .sub x y) (D64 + (e + 1)) ∧ nr (r64 (bv .sub x y)) (r64 x - r64 y) (two (e + 1) / two 50) := by
  have hD := D64_is
  have hb := abs_sub hx.2 hy.2
  obtain ⟨r, hr, hrr⟩ := sub_rnd double hx.1 hy.1 (hi := pw (D64 + e + 1)) (pw_inf (by omega)) (by rw [mv_pw (by omega)]; exact hb)
  have er := (bv_some (show floatBits .sub .f64 x y = some r from hr)).2
  obtain ⟨b1, b2⟩ := near64 (e := e + 1) hrr (by rw [show D64 + 0 + (e + 1) = D64 + e + 1 by omega]; exact hb) (by omega)
  rw [er]
  refine ⟨hr, b1, ?_⟩
  have e2 : ((V double x - V double y : Int) : Rat) / (two D64 * two 0) = r64 x - r64 y := by
    unfold r64
    rw [two_zero]
    push_cast
    have := two_pos D64
    grind
  rwa [e2] at b2

/-! ## complex products -/
theorem nr_trans {a b c e f : Rat} (h : nr a b e) (h' : nr b c f) : nr a c (e + f) := by unfold nr at *; grind
theorem nr_mono {a b e f : Rat} (h : nr a b e) (hef : e ≤ f) : nr a b f := by unfold nr at *; grind
theorem nr_add {a b c d e f : Rat} (h : nr a b e) (h' : nr c d f) : nr (a + c) (b + d) (e + f) := by unfold nr at *; grind
theorem nr_sub {a b c d e f : Rat} (h : nr a b e) (h' : nr c d f) : nr (a - c) (b - d) (e + f) := by unfold nr at *; grind
theorem two_num (e : Nat) (m : Nat) (h : 2 ^ e = m) : two e = (m : Rat) := by unfold two; rw [h]
theorem mul_near {x y : Nat × Nat} {a b : Nat} (hx : Cb x a) (hy : Cb y b) (h : a + b + 1 ≤ 89) :
    nr (r32 (mulw x y).1) (r32 x.1 * r32 y.1 - r32 x.2 * r32 y.2) (two (a + b + 1) / two 20) ∧ nr (r32 (mulw x y).2) (r32 x.1 * r32 y.2 + r32 x.2 * r32 y.1) (two (a + b + 1) / two 20) := by
  obtain ⟨_, x1⟩ := wd_in hx.1 (by omega)
  obtain ⟨_, x2⟩ := wd_in hx.2 (by omega)
  obtain ⟨_, y1⟩ := wd_in hy.1 (by omega)
  obtain ⟨_, y2⟩ := wd_in hy.2 (by omega)
  have vx1 := (wd_r hx.1.1).2
  have vx2 := (wd_r hx.2.1).2
  have vy1 := (wd_r hy.1.1).2
  have vy2 := (wd_r hy.2.1).2
  obtain ⟨_, p1, q1⟩ := mul64 x1 y1 (by omega)
  obtain ⟨_, p2, q2⟩ := mul64 x2 y2 (by omega)
  obtain ⟨_, p3, q3⟩ := mul64 x1 y2 (by omega)
  obtain ⟨_, p4, q4⟩ := mul64 x2 y1 (by omega)
  rw [vx1, vy1] at q1
  rw [vx2, vy2] at q2
  rw [vx1, vy2] at q3
  rw [vx2, vy1] at q4
  obtain ⟨_, s1, t1⟩ := sub64 p1 p2 (by omega)
  obtain ⟨_, s2, t2⟩ := add64 p3 p4 (by omega)
  obtain ⟨_, u1⟩ := nw_r (e := a + b + 1) s1 (by omega)
  obtain ⟨_, u2⟩ := nw_r (e := a + b + 1) s2 (by omega)
  have z1 := nr_trans u1 (nr_trans t1 (nr_sub q1 q2))
  have z2 := nr_trans u2 (nr_trans t2 (nr_add q3 q4))
  have hT : two (a + b + 1) = two (a + b) * 2 := by rw [two_add]; rfl
  have hp := two_pos (a + b)
  rw [hT, two_num 22 4194304 rfl, two_num 50 1125899906842624 rfl] at z1 z2
  rw [hT, two_num 20 1048576 rfl]
  exact ⟨nr_mono z1 (by grind), nr_mono z2 (by grind)⟩
theorem nr_sq {a e : Rat} (h : nr a 0 e) : a * a ≤ e * e := by
  have h1 : 0 ≤ e - a := by unfold nr at h; grind
  have h2 : 0 ≤ e + a := by unfold nr at h; grind
  have h3 := Rat.mul_nonneg h1 h2
  grind

end Go.Proofs.Ytbefoiikbbjjfaa.rq
