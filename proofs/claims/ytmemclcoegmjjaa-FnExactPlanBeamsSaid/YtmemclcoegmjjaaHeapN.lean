/- Heaps of pairs in a list: what is moved up and down, and what stays. -/
namespace Go.Proofs.Ytmemclcoegmjjaa.heapN
set_option linter.unusedVariables false
set_option linter.unusedVariables false

abbrev Jb := Int × Int
def key (x : Jb) : Int := x.1 * 8 + x.2
def jg (L : List Jb) (i : Nat) : Jb := L.getD i (0, 0)
def ky (L : List Jb) (i : Nat) : Int := key (jg L i)
/-- One job comes before another. -/
def lts (a b : Jb) : Bool := if a.1 = b.1 then decide (a.2 < b.2) else decide (a.1 < b.1)
def Sm (L : List Jb) : Prop := ∀ x ∈ L, 0 ≤ x.2 ∧ x.2 < 8
theorem lts_key {a b : Jb} (ha : 0 ≤ a.2 ∧ a.2 < 8) (hb : 0 ≤ b.2 ∧ b.2 < 8) : lts a b = decide (key a < key b) := by
  unfold lts key
  split
  · rw [decide_eq_decide]; omega
  · rw [decide_eq_decide]; omega
theorem jg_mem {L : List Jb} {i : Nat} (h : i < L.length) : jg L i ∈ L := by
  unfold jg
  simp only [List.getD, List.getElem?_eq_getElem h, Option.getD_some]
  exact List.getElem_mem h
theorem Sm.at_ {L : List Jb} (h : Sm L) {i : Nat} (hi : i < L.length) : 0 ≤ (jg L i).2 ∧ (jg L i).2 < 8 := h _ (jg_mem hi)
theorem lts_ky {L : List Jb} (h : Sm L) {i j : Nat} (hi : i < L.length) (hj : j < L.length) : lts (jg L i) (jg L j) = decide (ky L i < ky L j) := lts_key (h.at_ hi) (h.at_ hj)
def swp (L : List Jb) (i j : Nat) : List Jb := (L.set i (jg L j)).set j (jg L i)
theorem swp_len (L : List Jb) (i j : Nat) : (swp L i j).length = L.length := by simp [swp]
theorem swp_at {L : List Jb} {i j : Nat} (hi : i < L.length) (hj : j < L.length) (k : Nat) : jg (swp L i j) k = if k = j then jg L i else if k = i then jg L j else jg L k := by
  unfold swp jg
  simp only [List.getD, List.getElem?_set, List.length_set]
  by_cases h1 : k = j
  · subst h1
    rw [if_pos rfl, if_pos hj, if_pos rfl]
    rfl
  · rw [if_neg (fun e => h1 e.symm), if_neg h1]
    by_cases h2 : k = i
    · subst h2
      rw [if_pos rfl, if_pos hi, if_pos rfl]
      rfl
    · rw [if_neg (fun e => h2 e.symm), if_neg h2]
theorem swp_ky {L : List Jb} {i j : Nat} (hi : i < L.length) (hj : j < L.length) (k : Nat) : ky (swp L i j) k = if k = j then ky L i else if k = i then ky L j else ky L k := by
  unfold ky
  rw [swp_at hi hj]
  split
  · rfl
  · split <;> rfl
theorem swp_perm {L : List Jb} {i j : Nat} (hi : i < L.length) (hj : j < L.length) : (swp L i j).Perm L := by
  have h := Array.swap_perm (xs := L.toArray) (i := i) (j := j) (by simpa using hi) (by simpa using hj)
  have h2 := Array.perm_iff_toList_perm.1 h
  have e : (L.toArray.swap i j (by simpa using hi) (by simpa using hj)).toList = swp L i j := by
    unfold swp jg
    simp [Array.swap, List.getD, List.getElem?_eq_getElem hi, List.getElem?_eq_getElem hj]
  rw [e] at h2
  exact h2
theorem Sm.perm {L L' : List Jb} (h : Sm L) (hp : L'.Perm L) : Sm L' := fun x hx => h x (hp.mem_iff.1 hx)

/-! ## up -/
def upF (L : List Jb) (j : Nat) : List Jb :=
  if h : j = 0 then L else if lts (jg L j) (jg L ((j - 1) / 2)) = true then upF (swp L ((j - 1) / 2) j) ((j - 1) / 2) else L
termination_by j
decreasing_by omega
theorem up_zero (L : List Jb) : upF L 0 = L := by rw [upF]; simp
theorem up_stop {L : List Jb} {j : Nat} (h : lts (jg L j) (jg L ((j - 1) / 2)) = false) : upF L j = L := by rw [upF]; split <;> simp [h]
theorem up_go {L : List Jb} {j : Nat} (h0 : j ≠ 0) (h : lts (jg L j) (jg L ((j - 1) / 2)) = true) : upF L j = upF (swp L ((j - 1) / 2) j) ((j - 1) / 2) := by rw [upF, dif_neg h0, if_pos h]
/-- A heap. -/
def Hp (L : List Jb) (n : Nat) : Prop := ∀ c, 0 < c → c < n → ky L ((c - 1) / 2) ≤ ky L c
structure Up (L : List Jb) (j : Nat) : Prop where
  ok : ∀ c, 0 < c → c < L.length → c ≠ j → ky L ((c - 1) / 2) ≤ ky L c
  sub : 0 < j → ∀ c, 0 < c → c < L.length → (c - 1) / 2 = j → ky L ((j - 1) / 2) ≤ ky L c
theorem up_all : ∀ (j : Nat) (L : List Jb), j < L.length → Sm L → Up L j → (upF L j).Perm L ∧ Hp (upF L j) L.length := by
  intro j
  induction j using Nat.strongRecOn with
  | _ j ih =>
    intro L hj hs hu
    by_cases h0 : j = 0
    · subst h0
      rw [up_zero]
      exact ⟨List.Perm.refl _, fun c h1 h2 => hu.ok c h1 h2 (by omega)⟩
    · have hp : (j - 1) / 2 < j := by omega
      cases hl : lts (jg L j) (jg L ((j - 1) / 2))
      · rw [up_stop hl]
        rw [lts_ky hs hj (by omega)] at hl
        have hl := of_decide_eq_false hl
        refine ⟨List.Perm.refl _, fun c h1 h2 => ?_⟩
        by_cases e : c = j
        · subst e; omega
        · exact hu.ok c h1 h2 e
      · rw [up_go h0 hl]
        rw [lts_ky hs hj (by omega)] at hl
        have hl := of_decide_eq_true hl
        have hip : (j - 1) / 2 < L.length := by omega
        have hpm := swp_perm hip hj
        obtain ⟨a, b⟩ := ih ((j - 1) / 2) hp (swp L ((j - 1) / 2) j) (by rw [swp_len]; exact hip) (hs.perm hpm) ⟨fun c h1 h2 h3 => by
          rw [swp_len] at h2
          rw [swp_ky hip hj, swp_ky hip hj]
          by_cases e : c = j
          · subst e
            rw [if_neg (by omega), if_pos rfl, if_pos rfl]
            omega
          · rw [if_neg e, if_neg h3]
            by_cases e2 : (c - 1) / 2 = j
            · rw [if_pos e2]
              exact hu.sub (by omega) c h1 h2 e2
            · rw [if_neg e2]
              have := hu.ok c h1 h2 e
              split
              · rename_i e3; rw [e3] at this; omega
              · exact this, fun h1 c h2 h3 h4 => by
          rw [swp_len] at h3
          rw [swp_ky hip hj, swp_ky hip hj]
          rw [if_neg (by omega), if_neg (by omega)]
          have hj2 := hu.ok ((j - 1) / 2) h1 hip (by omega)
          by_cases e : c = j
          · rw [if_pos e]; exact hj2
          · rw [if_neg e, if_neg (by omega)]
            have := hu.ok c h2 h3 e
            rw [h4] at this
            omega⟩
        rw [swp_len] at b
        exact ⟨a.trans hpm, b⟩
theorem push_all {L : List Jb} {x : Jb} (hs : Sm L) (hx : 0 ≤ x.2 ∧ x.2 < 8) (hh : Hp L L.length) : (upF (L ++ [x]) L.length).Perm (x :: L) ∧ Hp (upF (L ++ [x]) L.length) (L.length + 1) := by
  have hs2 : Sm (L ++ [x]) := fun y hy => by
    rcases List.mem_append.1 hy with h | h
    · exact hs y h
    · rw [List.mem_singleton.1 h]; exact hx
  have hk : ∀ c, c < L.length → ky (L ++ [x]) c = ky L c := fun c hc => by
    unfold ky jg
    rw [List.getD, List.getD, List.getElem?_append_left hc]
  obtain ⟨a, b⟩ := up_all L.length (L ++ [x]) (by simp) hs2 ⟨fun c h1 h2 h3 => by
    simp at h2
    rw [hk c (by omega), hk _ (by omega)]
    exact hh c h1 (by omega), fun h1 c h2 h3 h4 => by simp at h3; omega⟩
  rw [List.length_append, List.length_singleton] at b
  exact ⟨a.trans (List.perm_append_singleton x L), b⟩
theorem up_len : ∀ (j : Nat) (L : List Jb), (upF L j).length = L.length := by
  intro j
  induction j using Nat.strongRecOn with
  | _ j ih =>
    intro L
    rw [upF]
    split
    · rfl
    · split
      · rw [ih _ (by omega), swp_len]
      · rfl

/-! ## down -/
def ch (L : List Jb) (i n : Nat) : Nat := if 2 * i + 2 < n ∧ lts (jg L (2 * i + 2)) (jg L (2 * i + 1)) = true then 2 * i + 2 else 2 * i + 1
def downF (L : List Jb) (i n : Nat) : List Jb :=
  if h : 2 * i + 1 < n then (if lts (jg L (ch L i n)) (jg L i) = true then downF (swp L i (ch L i n)) (ch L i n) n else L) else L
termination_by n - i
decreasing_by unfold ch; split <;> omega
theorem ch_lt (L : List Jb) {i n : Nat} (h : 2 * i + 1 < n) : ch L i n < n ∧ i < ch L i n ∧ (ch L i n - 1) / 2 = i ∧ 0 < ch L i n := by unfold ch; split <;> omega
theorem down_end {L : List Jb} {i n : Nat} (h : ¬ 2 * i + 1 < n) : downF L i n = L := by rw [downF, dif_neg h]
theorem down_stop {L : List Jb} {i n : Nat} (h : lts (jg L (ch L i n)) (jg L i) = false) : downF L i n = L := by rw [downF]; split <;> simp [h]
theorem down_go {L : List Jb} {i n : Nat} (h0 : 2 * i + 1 < n) (h : lts (jg L (ch L i n)) (jg L i) = true) : downF L i n = downF (swp L i (ch L i n)) (ch L i n) n := by rw [downF, dif_pos h0, if_pos h]
structure Dn (L : List Jb) (i n : Nat) : Prop where
  ok : ∀ c, 0 < c → c < n → (c - 1) / 2 ≠ i → ky L ((c - 1) / 2) ≤ ky L c
  sub : 0 < i → ∀ c, 0 < c → c < n → (c - 1) / 2 = i → ky L ((i - 1) / 2) ≤ ky L c
theorem down_all : ∀ (m i : Nat) (L : List Jb) (n : Nat), n - i ≤ m → i < n ∨ n = 0 → n ≤ L.length → Sm L → Dn L i n → (downF L i n).Perm L ∧ Hp (downF L i n) n ∧ ∀ k, n ≤ k → jg (downF L i n) k = jg L k := by
  intro m
  induction m with
  | zero =>
    intro i L n h1 h2 h3 hs hd
    rw [down_end (by omega)]
    exact ⟨List.Perm.refl _, fun c h4 h5 => by omega, fun _ _ => rfl⟩
  | succ m ih =>
    intro i L n h1 h2 h3 hs hd
    by_cases h0 : 2 * i + 1 < n
    · obtain ⟨c1, c2, c3, c4⟩ := ch_lt L h0
      have hmin : ∀ c, 0 < c → c < n → (c - 1) / 2 = i → ky L (ch L i n) ≤ ky L c := fun c h4 h5 h6 => by
        have hc : c = 2 * i + 1 ∨ c = 2 * i + 2 := by omega
        unfold ch
        by_cases hr : 2 * i + 2 < n
        · cases hl : lts (jg L (2 * i + 2)) (jg L (2 * i + 1))
          · rw [if_neg (by simp)]
            rw [lts_ky hs (by omega) (by omega)] at hl
            have hl := of_decide_eq_false hl
            rcases hc with rfl | rfl <;> omega
          · rw [if_pos ⟨hr, rfl⟩]
            rw [lts_ky hs (by omega) (by omega)] at hl
            have hl := of_decide_eq_true hl
            rcases hc with rfl | rfl <;> omega
        · rw [if_neg (by omega)]
          rcases hc with rfl | rfl <;> omega
      cases hl : lts (jg L (ch L i n)) (jg L i)
      · rw [down_stop hl]
        rw [lts_ky hs (by omega) (by omega)] at hl
        have hl := of_decide_eq_false hl
        refine ⟨List.Perm.refl _, fun c h4 h5 => ?_, fun _ _ => rfl⟩
        by_cases e : (c - 1) / 2 = i
        · rw [e]; have := hmin c h4 h5 e; omega
        · exact hd.ok c h4 h5 e
      · rw [down_go h0 hl]
        rw [lts_ky hs (by omega) (by omega)] at hl
        have hl := of_decide_eq_true hl
        generalize hj : ch L i n = j at *
        have hil : i < L.length := by omega
        have hjl : j < L.length := by omega
        have hpm := swp_perm hil hjl
        obtain ⟨a, b, d⟩ := ih j (swp L i j) n (by omega) (by omega) (by rw [swp_len]; exact h3) (hs.perm hpm) ⟨fun c h4 h5 h6 => by
          rw [swp_ky hil hjl, swp_ky hil hjl, if_neg h6]
          by_cases e : (c - 1) / 2 = i
          · rw [if_pos e]
            by_cases e2 : c = j
            · rw [if_pos e2]; omega
            · rw [if_neg e2, if_neg (by omega)]; exact hmin c h4 h5 e
          · rw [if_neg e]
            have h7 := hd.ok c h4 h5 e
            by_cases e2 : c = j
            · subst e2; exact absurd c3 e
            · rw [if_neg e2]
              by_cases e3 : c = i
              · subst e3
                rw [if_pos rfl]
                exact hd.sub h4 j c4 c1 c3
              · rw [if_neg e3]; exact h7, fun h4 c h5 h6 h7 => by
          rw [swp_ky hil hjl, swp_ky hil hjl, c3, if_neg (by omega), if_pos rfl, if_neg (by omega), if_neg (by omega)]
          have := hd.ok c h5 h6 (by omega)
          rw [h7] at this
          exact this⟩
        refine ⟨a.trans hpm, b, fun k hk => ?_⟩
        rw [d k hk, swp_at hil hjl, if_neg (by omega), if_neg (by omega)]
    · rw [down_end h0]
      exact ⟨List.Perm.refl _, fun c h4 h5 => by
        by_cases e : (c - 1) / 2 = i
        · omega
        · exact hd.ok c h4 h5 e, fun _ _ => rfl⟩
theorem Hp.root {L : List Jb} {n : Nat} (h : Hp L n) : ∀ c, c < n → ky L 0 ≤ ky L c := by
  intro c
  induction c using Nat.strongRecOn with
  | _ c ih =>
    intro hc
    by_cases h0 : c = 0
    · subst h0; exact Int.le_refl _
    · have h1 := h c (by omega) hc
      have h2 := ih ((c - 1) / 2) (by omega) (by omega)
      omega
/-- What is left behind a pop. -/
def popF (L : List Jb) : List Jb := (downF (swp L 0 (L.length - 1)) 0 (L.length - 1)).take (L.length - 1)
theorem down_len : ∀ (m i : Nat) (L : List Jb) (n : Nat), n - i ≤ m → (downF L i n).length = L.length := by
  intro m
  induction m with
  | zero => intro i L n h; rw [down_end (by omega)]
  | succ m ih =>
    intro i L n h
    by_cases h0 : 2 * i + 1 < n
    · obtain ⟨c1, c2, _, _⟩ := ch_lt L h0
      cases hl : lts (jg L (ch L i n)) (jg L i)
      · rw [down_stop hl]
      · rw [down_go h0 hl, ih _ _ _ (by omega), swp_len]
    · rw [down_end h0]
theorem pop_all {L : List Jb} (h0 : 0 < L.length) (hs : Sm L) (hh : Hp L L.length) :
    jg (downF (swp L 0 (L.length - 1)) 0 (L.length - 1)) (L.length - 1) = jg L 0 ∧ L.Perm (jg L 0 :: popF L) ∧ Hp (popF L) (L.length - 1) ∧ (popF L).length = L.length - 1 := by
  obtain ⟨n, hn⟩ : ∃ n, L.length = n + 1 := ⟨L.length - 1, by omega⟩
  unfold popF
  rw [show L.length - 1 = n by omega]
  have h1 : n < L.length := by omega
  have hpm := swp_perm h0 h1
  obtain ⟨a, b, d⟩ := down_all n 0 (swp L 0 n) n (by omega) (by omega) (by rw [swp_len]; omega) (hs.perm hpm) ⟨fun c h2 h3 h4 => by
    rw [swp_ky h0 h1, swp_ky h0 h1, if_neg (by omega), if_neg (by omega), if_neg (by omega), if_neg (by omega)]
    exact hh c h2 (by omega), fun h2 => by omega⟩
  have e := d n (Nat.le_refl _)
  rw [swp_at h0 h1, if_pos rfl] at e
  have hl : (downF (swp L 0 n) 0 n).length = n + 1 := by rw [down_len n 0 _ _ (by omega), swp_len, hn]
  have hsplit : downF (swp L 0 n) 0 n = (downF (swp L 0 n) 0 n).take n ++ [jg L 0] := by
    conv => lhs; rw [← List.take_append_drop n (downF (swp L 0 n) 0 n)]
    rw [List.drop_eq_getElem_cons (by omega), List.drop_eq_nil_of_le (by omega)]
    rw [← e]
    unfold jg
    simp [List.getD, List.getElem?_eq_getElem (show n < (downF (swp L 0 n) 0 n).length by omega)]
  refine ⟨e, ?_, fun c h2 h3 => ?_, by simp; omega⟩
  · have h2 := (a.trans hpm).symm
    rw [hsplit] at h2
    exact h2.trans (List.perm_append_singleton _ _)
  · have := b c h2 h3
    unfold ky jg at this ⊢
    rw [List.getD, List.getD, List.getElem?_take, List.getElem?_take, if_pos (by omega), if_pos (by omega)]
    exact this

end Go.Proofs.Ytmemclcoegmjjaa.heapN
