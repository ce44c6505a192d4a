/- Polynomials over complex numbers with integers as parts: zeros, products, values. -/
namespace Go.Proofs.Ytkjmlpdbnnmlhab.gPoly
set_option linter.unusedVariables false
abbrev G := Int × Int
def gm (x y : G) : G := (x.1 * y.1 - x.2 * y.2, x.1 * y.2 + x.2 * y.1)
def ga (x y : G) : G := (x.1 + y.1, x.2 + y.2)
def gs (x y : G) : G := (x.1 - y.1, x.2 - y.2)
def gz : G := (0, 0)
def gN (x : G) : Nat := x.1.natAbs + x.2.natAbs
theorem gN_gm (x y : G) : gN (gm x y) ≤ gN x * gN y := by
  obtain ⟨a, b⟩ := x
  obtain ⟨c, d⟩ := y
  have e : (a.natAbs + b.natAbs) * (c.natAbs + d.natAbs) = (a * c).natAbs + (b * d).natAbs + ((a * d).natAbs + (b * c).natAbs) := by
    simp only [Int.natAbs_mul]; grind
  unfold gN gm
  dsimp only
  rw [e]
  generalize a * c = p
  generalize b * d = q
  generalize a * d = r
  generalize b * c = s
  omega
theorem gN_ga (x y : G) : gN (ga x y) ≤ gN x + gN y := by unfold gN ga; dsimp only; omega
theorem gN_gs (x y : G) : gN (gs x y) ≤ gN x + gN y := by unfold gN gs; dsimp only; omega
theorem gm_zero (x : G) : gm gz x = gz := by unfold gm gz; simp
theorem gm_zero' (x : G) : gm x gz = gz := by unfold gm gz; simp
/-- A polynomial times one of one zero. -/
def gnx (f : Nat → G) (z : G) (k : Nat) : G := gs (if k = 0 then gz else f (k - 1)) (gm (f k) z)
def g1 (k : Nat) : G := if k = 0 then (1, 0) else gz
def gpol (zs : List G) : Nat → G := zs.foldl gnx g1
theorem gpol_snoc (zs : List G) (z : G) : gpol (zs ++ [z]) = gnx (gpol zs) z := by simp [gpol]
theorem gnx_N {f : Nat → G} {B : Nat} (hf : ∀ k, gN (f k) ≤ B) {z : G} {C : Nat} (hz : gN z ≤ C) (k : Nat) : gN (gnx f z k) ≤ B + B * C := by
  unfold gnx
  refine Nat.le_trans (gN_gs _ _) (Nat.add_le_add ?_ (Nat.le_trans (gN_gm _ _) (Nat.mul_le_mul (hf k) hz)))
  split
  · show 0 ≤ B; omega
  · exact hf _
theorem fold_N (C : Nat) : ∀ (zs : List G) (f : Nat → G) (B : Nat), (∀ z ∈ zs, gN z ≤ C) → (∀ k, gN (f k) ≤ B) → ∀ k, gN (zs.foldl gnx f k) ≤ B * (1 + C) ^ zs.length
  | [], f, B, _, hf, k => by simpa using hf k
  | z :: zs, f, B, hz, hf, k => by
    rw [List.foldl_cons]
    have := fold_N C zs (gnx f z) (B + B * C) (fun y hy => hz y (List.mem_cons_of_mem _ hy)) (gnx_N hf (hz z List.mem_cons_self)) k
    rw [List.length_cons, Nat.pow_succ, show B * ((1 + C) ^ zs.length * (1 + C)) = (B + B * C) * (1 + C) ^ zs.length by grind]
    exact this
theorem gpol_N {C : Nat} {zs : List G} (hz : ∀ z ∈ zs, gN z ≤ C) (k : Nat) : gN (gpol zs k) ≤ (1 + C) ^ zs.length := by
  have := fold_N C zs g1 1 hz (fun k => by unfold g1; split <;> decide) k
  rw [Nat.one_mul] at this
  exact this
theorem gnx_hi {f : Nat → G} {n : Nat} (hf : ∀ k, n < k → f k = gz) (z : G) (k : Nat) (hk : n + 1 < k) : gnx f z k = gz := by
  unfold gnx
  rw [if_neg (by omega), hf _ (by omega), hf _ (by omega), gm_zero]; rfl
theorem fold_hi : ∀ (zs : List G) (f : Nat → G) (n : Nat), (∀ k, n < k → f k = gz) → ∀ k, n + zs.length < k → zs.foldl gnx f k = gz
  | [], f, n, hf, k, hk => hf k hk
  | z :: zs, f, n, hf, k, hk => by
    rw [List.foldl_cons]
    rw [List.length_cons] at hk
    exact fold_hi zs _ (n + 1) (fun k hk => gnx_hi hf z k hk) k (by omega)
theorem g1_hi (k : Nat) (h : 0 < k) : g1 k = gz := by unfold g1; rw [if_neg (by omega)]
theorem gpol_hi (zs : List G) (k : Nat) (h : zs.length < k) : gpol zs k = gz := fold_hi zs g1 0 g1_hi k (by omega)
theorem gnx_top {f : Nat → G} {n : Nat} (hf : ∀ k, n < k → f k = gz) (z : G) : gnx f z (n + 1) = f n := by
  unfold gnx
  rw [if_neg (by omega), show n + 1 - 1 = n by omega, hf (n + 1) (by omega), gm_zero]
  unfold gs gz
  simp
theorem fold_top : ∀ (zs : List G) (f : Nat → G) (n : Nat), (∀ k, n < k → f k = gz) → zs.foldl gnx f (n + zs.length) = f n
  | [], f, n, hf => rfl
  | z :: zs, f, n, hf => by
    rw [List.foldl_cons, List.length_cons, show n + (zs.length + 1) = (n + 1) + zs.length by omega, fold_top zs _ (n + 1) (fun k hk => gnx_hi hf z k hk)]
    exact gnx_top hf z
theorem gpol_top (zs : List G) : gpol zs zs.length = (1, 0) := by
  have := fold_top zs g1 0 g1_hi
  rw [Nat.zero_add] at this
  exact this

/-- The product of two polynomials, of whose first one n numbers are taken. -/
def gcv (a b : Nat → G) : Nat → Nat → G
  | 0, _ => gz
  | n + 1, t => if n ≤ t then ga (gcv a b n t) (gm (a n) (b (t - n))) else gcv a b n t
theorem g_nx1 (x y u v z : G) : ga (gs x (gm y z)) (gm u v) = gs (ga x (gm u v)) (gm y z) := by
  unfold ga gs gm; ext <;> dsimp only <;> omega
theorem g_nx2 (x y z a b p : G) : ga (gs x (gm y z)) (gm a (gs p (gm b z))) = gs (ga x (gm a p)) (gm (ga y (gm a b)) z) := by
  unfold ga gs gm; ext <;> dsimp only <;> grind
theorem gcv_yes (a b : Nat → G) {n t : Nat} (h : n ≤ t) : gcv a b (n + 1) t = ga (gcv a b n t) (gm (a n) (b (t - n))) := if_pos h
theorem gcv_no (a b : Nat → G) {n t : Nat} (h : ¬ n ≤ t) : gcv a b (n + 1) t = gcv a b n t := if_neg h
theorem gcv_nx (a b : Nat → G) (z : G) : ∀ (n t : Nat), gcv a (gnx b z) n t = gnx (gcv a b n) z t
  | 0, t => by
    show gz = gs (if t = 0 then gz else gz) (gm gz z)
    rw [gm_zero]; split <;> rfl
  | n + 1, t => by
    have ih := gcv_nx a b z n t
    by_cases h1 : n ≤ t
    · rw [gcv_yes _ _ h1, ih]
      unfold gnx
      by_cases h2 : n = t
      · subst h2
        rw [gcv_yes _ _ h1, Nat.sub_self, if_pos rfl]
        by_cases h3 : n = 0
        · subst h3
          rw [if_pos rfl, if_pos rfl]
          have := g_nx2 gz (gcv a b 0 0) z (a 0) (b 0) gz
          rw [this]
          rw [gm_zero']; rfl
        · rw [if_neg h3, if_neg h3, gcv_no _ _ (show ¬ n ≤ n - 1 by omega)]
          have := g_nx2 (gcv a b n (n - 1)) (gcv a b n n) z (a n) (b 0) gz
          rw [this, gm_zero']
          unfold ga gz; simp
      · rw [gcv_yes _ _ h1, if_neg (show ¬ t = 0 by omega), if_neg (show ¬ t - n = 0 by omega), if_neg (show ¬ t = 0 by omega), gcv_yes _ _ (show n ≤ t - 1 by omega), show t - 1 - n = t - n - 1 by omega]
        exact g_nx2 _ _ _ _ _ _
    · rw [gcv_no _ _ h1, ih]
      unfold gnx
      rw [gcv_no _ _ h1]
      by_cases h3 : t = 0
      · rw [if_pos h3, if_pos h3]
      · rw [if_neg h3, if_neg h3, gcv_no _ _ (by omega)]
theorem gcv_one (a : Nat → G) (t : Nat) : ∀ n, gcv a g1 n t = if t < n then a t else gz
  | 0 => by rw [if_neg (by omega)]; rfl
  | n + 1 => by
    unfold gcv
    rw [gcv_one a t n]
    by_cases h1 : n ≤ t
    · rw [if_pos h1, if_neg (by omega)]
      by_cases h2 : n = t
      · subst h2
        rw [if_pos (by omega), Nat.sub_self]
        unfold ga gm g1 gz; simp
      · rw [if_neg (by omega), g1_hi _ (by omega), gm_zero']; rfl
    · rw [if_neg h1, if_pos (by omega), if_pos (by omega)]
theorem gcv_fold (a : Nat → G) (n : Nat) : ∀ (zs : List G) (b : Nat → G) (t : Nat), gcv a (zs.foldl gnx b) n t = zs.foldl gnx (gcv a b n) t
  | [], b, t => rfl
  | z :: zs, b, t => by
    rw [List.foldl_cons, List.foldl_cons, gcv_fold a n zs (gnx b z) t]
    rw [show gcv a (gnx b z) n = gnx (gcv a b n) z from funext fun t => gcv_nx a b z n t]
/-- The polynomial of zeros is the product of those of two parts. -/
theorem gpol_split (xs ys : List G) (t : Nat) : gcv (gpol xs) (gpol ys) (xs.length + 1) t = gpol (xs ++ ys) t := by
  have e : gcv (gpol xs) g1 (xs.length + 1) = gpol xs := funext fun t => by
    rw [gcv_one]
    split
    · rfl
    · rw [gpol_hi _ _ (by omega)]
  have := gcv_fold (gpol xs) (xs.length + 1) ys g1 t
  rw [e] at this
  unfold gpol at this ⊢
  rw [this, List.foldl_append]

/-- Horner's value, s numbers below the last one. -/
def ghv (p : Nat → G) (z : G) (last : Nat) : Nat → G
  | 0 => p last
  | s + 1 => ga (gm (ghv p z last s) z) (p (last - s - 1))
theorem g_h (P Q z w x y : G) : ga (gm (gs P (gm Q w)) z) (gs x (gm y w)) = gs (ga (gm P z) x) (gm (ga (gm Q z) y) w) := by
  unfold ga gs gm; ext <;> dsimp only <;> grind
theorem ghv_nx (p : Nat → G) (z w : G) (last : Nat) (hp : ∀ k, last < k → p k = gz) : ∀ s, s < last → ghv (gnx p w) z (last + 1) (s + 1) = gs (ghv p z last (s + 1)) (gm (ghv p z last s) w)
  | 0, h => by
    show ga (gm (gnx p w (last + 1)) z) (gnx p w (last + 1 - 0 - 1)) = gs (ga (gm (p last) z) (p (last - 0 - 1))) (gm (p last) w)
    rw [gnx_top hp]
    unfold gnx
    rw [if_neg (by omega), show last + 1 - 0 - 1 = last by omega, show last - 0 - 1 = last - 1 by omega]
    unfold ga gs gm; ext <;> dsimp only <;> omega
  | s + 1, h => by
    have ih := ghv_nx p z w last hp s (by omega)
    unfold ghv
    rw [ih]
    unfold gnx
    rw [if_neg (by omega), show last + 1 - (s + 1) - 1 - 1 = last - (s + 1) - 1 by omega, show last + 1 - (s + 1) - 1 = last - s - 1 by omega]
    have := g_h (ghv p z last (s + 1)) (ghv p z last s) z w (p (last - (s + 1) - 1)) (p (last - s - 1))
    rw [this]

theorem ghv_mul (p : Nat → G) (z w : G) (last : Nat) (hp : ∀ k, last < k → p k = gz) : ghv (gnx p w) z (last + 1) (last + 1) = gm (ghv p z last last) (gs z w) := by
  cases last with
  | zero =>
    show ga (gm (gnx p w 1) z) (gnx p w 0) = gm (p 0) (gs z w)
    have := gnx_top hp w
    rw [Nat.zero_add] at this
    rw [this]
    unfold gnx
    rw [if_pos rfl]
    unfold ga gs gm gz; ext <;> dsimp only <;> grind
  | succ l =>
    have h := ghv_nx p z w (l + 1) hp l (by omega)
    show ga (gm (ghv (gnx p w) z (l + 1 + 1) (l + 1)) z) (gnx p w (l + 1 + 1 - (l + 1) - 1)) = _
    rw [h]
    unfold gnx
    rw [if_pos (by omega), show l + 1 + 1 - (l + 1) - 1 = 0 by omega]
    show _ = gm (ga (gm (ghv p z (l + 1) l) z) (p (l + 1 - l - 1))) (gs z w)
    rw [show l + 1 - l - 1 = 0 by omega]
    show ga (gm (gs (ga (gm (ghv p z (l + 1) l) z) (p (l + 1 - l - 1))) _) z) _ = _
    rw [show l + 1 - l - 1 = 0 by omega]
    unfold ga gs gm gz; ext <;> dsimp only <;> grind
/-- The product of what a number is apart from zeros. -/
def gown (z : G) (zs : List G) : G := zs.foldl (fun x w => gm x (gs z w)) (1, 0)
theorem gown_snoc (z : G) (zs : List G) (w : G) : gown z (zs ++ [w]) = gm (gown z zs) (gs z w) := by simp [gown]
theorem take_snoc (zs : List G) (k : Nat) (h : k < zs.length) : zs.take (k + 1) = zs.take k ++ [zs[k]] := List.take_succ_eq_append_getElem h
theorem gval (z : G) (zs : List G) : ∀ k, k ≤ zs.length → ghv (gpol (zs.take k)) z k k = gown z (zs.take k)
  | 0, _ => rfl
  | k + 1, h => by
    have hl : (zs.take k).length = k := by simp; omega
    rw [take_snoc zs k h, gpol_snoc, gown_snoc, ghv_mul _ _ _ _ (fun j hj => gpol_hi _ _ (by omega)), gval z zs k (by omega)]
theorem gval' (z : G) (zs : List G) : ghv (gpol zs) z zs.length zs.length = gown z zs := by
  have := gval z zs zs.length (Nat.le_refl _)
  rwa [List.take_length] at this
theorem gown_zero (zs : List G) (i : Nat) (h : i < zs.length) : ∀ k, i < k → k ≤ zs.length → gown zs[i] (zs.take k) = gz
  | 0, h1, _ => by omega
  | k + 1, h1, h2 => by
    rw [take_snoc zs k h2, gown_snoc]
    by_cases hk : i = k
    · subst hk
      rw [show gs zs[i] zs[i] = gz by unfold gs gz; simp]
      exact gm_zero' _
    · rw [gown_zero zs i h k (by omega) (by omega), gm_zero]
theorem gown_at (zs : List G) (i : Nat) (h : i < zs.length) : gown zs[i] zs = gz := by
  have := gown_zero zs i h zs.length h (Nat.le_refl _)
  rwa [List.take_length] at this
theorem gown_N {C : Nat} (z : G) (zs : List G) (hz : ∀ w ∈ zs, gN (gs z w) ≤ C) : gN (gown z zs) ≤ C ^ zs.length := by
  have h : ∀ (zs : List G) (x : G) (B : Nat), (∀ w ∈ zs, gN (gs z w) ≤ C) → gN x ≤ B → gN (zs.foldl (fun x w => gm x (gs z w)) x) ≤ B * C ^ zs.length := by
    intro zs
    induction zs with
    | nil => intro x B _ hx; simpa using hx
    | cons w zs ih =>
      intro x B hz hx
      rw [List.foldl_cons, List.length_cons, Nat.pow_succ, show B * (C ^ zs.length * C) = B * C * C ^ zs.length by grind]
      exact ih _ _ (fun y hy => hz y (List.mem_cons_of_mem _ hy)) (Nat.le_trans (gN_gm _ _) (Nat.mul_le_mul hx (hz w List.mem_cons_self)))
  have := h zs (1, 0) 1 hz (by decide)
  rw [Nat.one_mul] at this
  exact this
theorem gm_comm (x y : G) : gm x y = gm y x := by unfold gm; ext <;> dsimp only <;> grind
theorem ghv_N {f : Nat → G} {B C : Nat} (hf : ∀ k, gN (f k) ≤ B) {z : G} (hz : gN z ≤ C) (n : Nat) : ∀ s, gN (ghv f z n s) ≤ B * (1 + C) ^ s
  | 0 => by rw [Nat.pow_zero, Nat.mul_one]; exact hf n
  | s + 1 => by
    have ih := ghv_N hf hz n s
    have h1 : gN (gm (ghv f z n s) z) ≤ B * (1 + C) ^ s * C := Nat.le_trans (gN_gm _ _) (Nat.mul_le_mul ih hz)
    have h2 : B ≤ B * (1 + C) ^ s := Nat.le_mul_of_pos_right _ (Nat.pow_pos (by omega))
    have h3 := gN_ga (gm (ghv f z n s) z) (f (n - s - 1))
    have h4 := hf (n - s - 1)
    show gN (ga (gm (ghv f z n s) z) (f (n - s - 1))) ≤ _
    rw [Nat.pow_succ, ← Nat.mul_assoc, Nat.mul_add, Nat.mul_one]
    omega
theorem gcv_N {a b : Nat → G} {A B : Nat} (ha : ∀ k, gN (a k) ≤ A) (hb : ∀ k, gN (b k) ≤ B) (t : Nat) : ∀ n, gN (gcv a b n t) ≤ n * (A * B)
  | 0 => by show 0 ≤ _; omega
  | n + 1 => by
    have ih := gcv_N ha hb t n
    by_cases h : n ≤ t
    · rw [gcv_yes _ _ h, Nat.add_mul, Nat.one_mul]
      have := gN_ga (gcv a b n t) (gm (a n) (b (t - n)))
      have h2 : gN (gm (a n) (b (t - n))) ≤ A * B := Nat.le_trans (gN_gm _ _) (Nat.mul_le_mul (ha n) (hb _))
      omega
    · rw [gcv_no _ _ h, Nat.add_mul]
      omega
/-- The product while row i is added: j numbers of it are. -/
def stp (a b : Nat → G) (i j t : Nat) : G := if i ≤ t ∧ t < i + j then gcv a b (i + 1) t else gcv a b i t
theorem stp_zero (a b : Nat → G) (i t : Nat) : stp a b i 0 t = gcv a b i t := if_neg (by omega)
theorem ga_zero (x : G) : ga x gz = x := by unfold ga gz; simp
theorem stp_all (a b : Nat → G) (i m t : Nat) (hb : ∀ k, m ≤ k → b k = gz) : stp a b i m t = gcv a b (i + 1) t := by
  unfold stp
  split
  · rfl
  · by_cases h : i ≤ t
    · rw [gcv_yes _ _ h, hb _ (by omega), gm_zero', ga_zero]
    · rw [gcv_no _ _ h]
theorem stp_at (a b : Nat → G) (i j : Nat) : stp a b i (j + 1) (i + j) = ga (stp a b i j (i + j)) (gm (b j) (a i)) := by
  unfold stp
  rw [if_pos (by omega), if_neg (by omega), gcv_yes _ _ (by omega), Nat.add_sub_cancel_left, gm_comm (b j)]
theorem stp_off (a b : Nat → G) (i j t : Nat) (h : t ≠ i + j) : stp a b i (j + 1) t = stp a b i j t := by
  unfold stp
  by_cases h1 : i ≤ t ∧ t < i + j
  · rw [if_pos h1, if_pos (by omega)]
  · rw [if_neg h1, if_neg (by omega)]
theorem stp_N {a b : Nat → G} {A B : Nat} (ha : ∀ k, gN (a k) ≤ A) (hb : ∀ k, gN (b k) ≤ B) (i j t : Nat) : gN (stp a b i j t) ≤ (i + 1) * (A * B) := by
  unfold stp
  split
  · exact gcv_N ha hb t _
  · have := gcv_N ha hb t i
    rw [Nat.add_mul]
    omega
theorem gpol_take (zs : List G) (m : Nat) (t : Nat) (h : m ≤ zs.length) : gcv (gpol (zs.take m)) (gpol (zs.drop m)) (m + 1) t = gpol zs t := by
  have := gpol_split (zs.take m) (zs.drop m) t
  rw [List.take_append_drop, List.length_take, Nat.min_eq_left h] at this
  exact this

end Go.Proofs.Ytkjmlpdbnnmlhab.gPoly
