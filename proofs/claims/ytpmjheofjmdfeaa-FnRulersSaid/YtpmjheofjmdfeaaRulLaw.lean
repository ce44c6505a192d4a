/- What the law on rulers compares, plainly. -/
import Derived.Test.YtpmjheofjmdfeaaRows
import Derived.Test.YtpmjheofjmdfeaaSlc
import Derived.Test.YtpmjheofjmdfeaaSmall
import Derived.Test.YtpmjheofjmdfeaaListI
import Derived.Test.YtpmjheofjmdfeaaMarks
import Derived.Test.YtpmjheofjmdfeaaPut
import Derived.Test.YtpmjheofjmdfeaaDiff
import Derived.Test.YtpmjheofjmdfeaaISet
import Derived.Test.YtpmjheofjmdfeaaISize
import Derived.Test.YtpmjheofjmdfeaaHoles
import Derived.Test.YtpmjheofjmdfeaaRuler
import Derived.Test.YtpmjheofjmdfeaaSearch
import Derived.Test.YtpmjheofjmdfeaaExt
import Derived.Test.YtpmjheofjmdfeaaRulN
import Derived.Test.YtpmjheofjmdfeaaShortR
import Derived.Test.YtpmjheofjmdfeaaLeastM
import Derived.Test.YtpmjheofjmdfeaaHoles2
import Derived.Test.YtpmjheofjmdfeaaFewN
import Derived.Test.YtpmjheofjmdfeaaSpecRul
import Derived.Test.YtpmjheofjmdfeaaShortA
import Derived.Test.YtpmjheofjmdfeaaFewA
import Derived.Test.YtpmjheofjmdfeaaDiffer
import Derived.WalkKit
import Derived.ProofKit
import Derived.OpenShut
import Derived.ShutString
import Derived.ChangeOld
import Derived.Below
import Derived.Lib.Hide
import Derived.BigQuiet
import Derived.Deep.QuietTactic
import Derived.WalkLawsBesides
import Derived.Outline
namespace Go.Proofs.Ytpmjheofjmdfeaa.rulLaw
open Go.ChangeShapes Go.WideShapes Go.ChangeAt Go.RowKit
open Go.ChangeMaps (open_string shut_string)
set_option linter.unusedVariables false
open Go Go.RowKit
open Go.Proofs.Ytpmjheofjmdfeaa.marks Go.Proofs.Ytpmjheofjmdfeaa.put Go.Proofs.Ytpmjheofjmdfeaa.diff Go.Proofs.Ytpmjheofjmdfeaa.iSize Go.Proofs.Ytpmjheofjmdfeaa.holes Go.Proofs.Ytpmjheofjmdfeaa.holes2 Go.Proofs.Ytpmjheofjmdfeaa.ruler Go.Proofs.Ytpmjheofjmdfeaa.search Go.Proofs.Ytpmjheofjmdfeaa.rulN Go.Proofs.Ytpmjheofjmdfeaa.leastM Go.Proofs.Ytpmjheofjmdfeaa.fewN Go.Proofs.Ytpmjheofjmdfeaa.fewA Go.Proofs.Ytpmjheofjmdfeaa.specRul Go.Proofs.Ytpmjheofjmdfeaa.shortA Go.Proofs.Ytpmjheofjmdfeaa.differ

/-- The marks that steps give. -/
def mk (f : Nat → Int) : Nat → List Int
  | 0 => [0]
  | k + 1 => mk f k ++ [endOf (mk f k) + 1 + f (k + 1)]
theorem mk_len (f : Nat → Int) : ∀ k, (mk f k).length = k + 1
  | 0 => rfl
  | k + 1 => by show (mk f k ++ [_]).length = _; rw [List.length_append, mk_len f k]; rfl
theorem mk_end (f : Nat → Int) (hf : ∀ k, 0 ≤ f k ∧ f k ≤ 3) : ∀ k, 0 ≤ endOf (mk f k) ∧ endOf (mk f k) ≤ 4 * k
  | 0 => by show 0 ≤ endOf [0] ∧ endOf [0] ≤ _; simp [endOf]
  | k + 1 => by
    have h := mk_end f hf k
    have := hf (k + 1)
    show 0 ≤ endOf (mk f k ++ [_]) ∧ endOf (mk f k ++ [_]) ≤ _
    rw [end_snoc]
    omega
theorem GoodM.up {a b : Int} {l : List Int} (h : GoodM a l) (hab : a ≤ b) : GoodM b l := ⟨h.1, h.2.1, fun x hx => ⟨(h.2.2 x hx).1, by have := (h.2.2 x hx).2; omega⟩⟩
theorem mk_good (f : Nat → Int) (hf : ∀ k, 0 ≤ f k ∧ f k ≤ 3) : ∀ k, GoodM (endOf (mk f k)) (mk f k)
  | 0 => good0 (by show 0 ≤ endOf [0]; simp [endOf])
  | k + 1 => by
    have h := mk_good f hf k
    have h1 := hf (k + 1)
    show GoodM (endOf (mk f k ++ [_])) (mk f k ++ [_])
    rw [end_snoc]
    exact (GoodM.up h (by omega)).snoc (by omega) (Int.le_refl _)
theorem mk_zero (f : Nat → Int) : ∀ k, (mk f k).getD 0 0 = 0
  | 0 => rfl
  | k + 1 => by
    have h := mk_zero f k
    have hl := mk_len f k
    show (mk f k ++ [_]).getD 0 0 = 0
    simp only [List.getD] at h ⊢
    rw [List.getElem?_append_left (by omega)]
    exact h
theorem good_mB {last : Int} {l : List Int} (h : GoodM last l) (h16 : l.length ≤ 16) (hl : last ≤ 4096) : mB l = true :=
  decide_eq_true ⟨h.1, h16, fun x hx => ⟨(h.2.2 x hx).1, by have := (h.2.2 x hx).2; omega⟩, h.2.1⟩
theorem top_end {l : List Int} (h0 : l.getD 0 0 = 0) : top l = endOf l := by unfold top endOf; rw [h0]; omega

/-- As many differences and holes as numbers. -/
theorem both_len {l : List Int} (hv : mB l = true) : ((D l).length + (H l).length : Int) = top l + 1 := by
  have ht := top_bd hv
  obtain ⟨n, hn⟩ : ∃ n : Nat, top l = (n : Int) := ⟨(top l).toNat, by omega⟩
  have e1 : H l = hl (D l) (n + 1) := by
    have hm := top_mem hv
    rw [hn] at hm
    unfold H
    rw [hn, Int.toNat_natCast, hl_in hm]
  have hr : ((List.range (n + 1)).map fun i : Nat => (i : Int)).Nodup := by
    refine List.nodup_iff_pairwise_ne.2 (List.pairwise_map.2 ((List.pairwise_lt_range (n := n + 1)).imp (fun h => ?_)))
    omega
  have hp : (((List.range (n + 1)).map fun i : Nat => (i : Int)).filter fun y => decide (y ∈ D l)).Perm (D l) := by
    refine (List.perm_ext_iff_of_nodup (hr.filter _) ?_).2 (fun y => ?_)
    · exact List.nodup_iff_pairwise_ne.2 ((dl_rises l l.length 0).imp (fun h => by omega))
    · rw [List.mem_filter, decide_eq_true_iff]
      refine ⟨fun h => h.2, fun h => ⟨?_, h⟩⟩
      have hb := D_bd hv y h
      exact List.mem_map.2 ⟨y.toNat, List.mem_range.2 (by omega), by omega⟩
  have h1 := hp.length_eq
  have h2 : (hl (D l) (n + 1)).length + (((List.range (n + 1)).map fun i : Nat => (i : Int)).filter fun y => decide (y ∈ D l)).length = n + 1 := by
    have : ∀ (r : List Int), (r.filter fun y => decide (y ∉ D l)).length + (r.filter fun y => decide (y ∈ D l)).length = r.length := by
      intro r
      induction r with
      | nil => rfl
      | cons a r ih =>
        rw [List.filter_cons, List.filter_cons, List.length_cons]
        by_cases ha : a ∈ D l
        · simp only [ha, not_true, decide_true, decide_false, if_true, List.length_cons]
          simp only [Bool.false_eq_true, if_false]
          omega
        · simp only [ha, not_false_iff, decide_true, decide_false, if_true, List.length_cons]
          simp only [Bool.false_eq_true, if_false]
          omega
    have h3 := this ((List.range (n + 1)).map fun i : Nat => (i : Int))
    rw [List.length_map, List.length_range] at h3
    exact h3
  rw [e1, hn]
  omega
theorem pq_mem {xs : List Int} {n : Nat} {y : Int} : y ∈ pq xs n 0 ↔ ∃ a b, a < n ∧ b < a ∧ y = dif xs a b := by
  unfold pq
  rw [List.range_zero, List.map_nil, List.append_nil, List.mem_flatMap]
  constructor
  · rintro ⟨a, ha, hb⟩
    obtain ⟨b, hb2, hb3⟩ := List.mem_map.1 hb
    exact ⟨a, b, List.mem_range.1 ha, List.mem_range.1 hb2, hb3.symm⟩
  · rintro ⟨a, b, ha, hb, rfl⟩
    exact ⟨a, List.mem_range.2 ha, List.mem_map.2 ⟨b, List.mem_range.2 hb, rfl⟩⟩
/-- What is a difference above 0 is one of a pair. -/
theorem D_pair {l : List Int} {y : Int} (hy : y ∈ D l) (h0 : 0 < y) : y ∈ pq l l.length 0 := by
  obtain ⟨a, b, ha, hb, rfl⟩ := (D_mem y).1 hy
  refine pq_mem.2 ⟨a, b, ha, ?_, rfl⟩
  rcases Nat.lt_or_eq_of_le hb with h | h
  · exact h
  · subst h; rw [dif_self] at h0; omega
theorem pair_D {l : List Int} {y : Int} (hy : y ∈ pq l l.length 0) : y ∈ D l := by
  obtain ⟨a, b, ha, hb, rfl⟩ := pq_mem.1 hy
  exact (D_mem _).2 ⟨a, b, ha, Nat.le_of_lt hb, rfl⟩
theorem hole_bd {l : List Int} (hv : mB l = true) {y : Int} (hy : y ∈ H l) : 1 ≤ y ∧ y ≤ top l ∧ y ∉ pq l l.length 0 := by
  have ht := top_bd hv
  obtain ⟨h1, h2⟩ := List.mem_filter.1 (show y ∈ ((List.range (top l).toNat).map fun i : Nat => (i : Int)).filter fun y => decide (y ∉ D l) from hy)
  have h2 := of_decide_eq_true h2
  obtain ⟨i, hi, rfl⟩ := List.mem_map.1 h1
  have hi := List.mem_range.1 hi
  have h0 : (0 : Int) ∈ D l := (D_mem 0).2 ⟨0, 0, (mB_yes hv).1, Nat.le_refl _, (dif_self l 0).symm⟩
  refine ⟨?_, by omega, fun h => h2 (pair_D h)⟩
  by_cases e : (i : Int) = 0
  · rw [e] at h2; exact absurd h0 h2
  · omega

/-- The first found one is found no later. -/
theorem tryL_first {f : Int → Option (List Int)} {m : Int} {q r : List Int} : ∀ (k : Nat) (lo : Int), lo ≤ m → f m = some q → tryL f k lo = some r → ∃ m', lo ≤ m' ∧ m' ≤ m ∧ f m' = some r
  | 0, lo, _, _, h => by cases h
  | k + 1, lo, h1, h2, h => by
    have h' : (match f lo with | some r => some r | none => tryL f k (lo + 1)) = some r := h
    cases hf : f lo with
    | some p =>
      rw [hf] at h'
      injection h' with h'
      subst h'
      exact ⟨lo, Int.le_refl _, h1, hf⟩
    | none =>
      rw [hf] at h'
      by_cases e : m = lo
      · subst e; rw [hf] at h2; cases h2
      · obtain ⟨m', a, b, c⟩ := tryL_first k (lo + 1) (by omega) h2 h'
        exact ⟨m', by omega, b, c⟩
theorem ds_pre {fin rB : List Int → Bool} {last : Int} : ∀ (k : Nat) (ms r : List Int), ds fin rB last k ms = some r → ∃ ext, r = ms ++ ext
  | 0, ms, r, h => by
    have h' : (if fin ms = true then some ms else none) = some r := h
    split at h'
    · injection h' with h'; exact ⟨[], by rw [← h', List.append_nil]⟩
    · cases h'
  | k + 1, ms, r, h => by
    obtain ⟨m, h1, h2, h3⟩ := tryL_some _ _ h
    by_cases hm : rB (ms ++ [m]) = true
    · rw [if_pos hm] at h3
      obtain ⟨ext, rfl⟩ := ds_pre k _ r h3
      exact ⟨[m] ++ ext, by simp⟩
    · rw [if_neg hm] at h3; cases h3
/-- What is there, with beginnings that may be, is found. -/
theorem ds_found2 {fin rB : List Int → Bool} {last : Int} : ∀ (ext ms : List Int), GoodM last ms → GoodM last (ms ++ ext) → fin (ms ++ ext) = true → (∀ l e, ms ++ ext = l ++ e → 1 ≤ l.length → rB l = true) → ∃ r, ds fin rB last ext.length ms = some r
  | [], ms, _, _, hf, _ => ⟨ms, by rw [List.append_nil] at hf; show (if fin ms = true then some ms else none) = _; rw [if_pos hf]⟩
  | m :: ext, ms, hg, hg2, hf, hb => by
    have e : ms ++ m :: ext = (ms ++ [m]) ++ ext := by simp
    rw [e] at hg2 hf hb
    have hm : endOf ms < m ∧ m ≤ last := by
      obtain ⟨g1, g2, g3⟩ := hg2
      refine ⟨?_, (g3 m (by simp)).2⟩
      rw [← e] at g2
      exact (List.pairwise_append.1 g2).2.2 _ (end_mem hg.1) m (by simp)
    obtain ⟨r, hr⟩ := ds_found2 ext (ms ++ [m]) (hg.snoc hm.1 hm.2) hg2 hf hb
    have h2 := tryL_found (f := fun m => if rB (ms ++ [m]) = true then ds fin rB last ext.length (ms ++ [m]) else none) (last - endOf ms).toNat (endOf ms + 1) (m := m) (by omega) (by omega) (by rw [if_pos (hb _ _ rfl (by simp))]; exact hr)
    exact h2
/-- A beginning of a ruler is one. -/
theorem rB_pre {l e : List Int} (hp : (l ++ e).Pairwise (· < ·)) (h1 : 1 ≤ l.length) (h : rB (l ++ e) = true) : rB l = true := by
  have hp1 := (List.pairwise_append.1 hp).1
  have hd := (rB_iff hp (by rw [List.length_append]; omega)).1 h
  refine (rB_iff hp1 h1).2 ?_
  have e1 : ∀ (i : Nat), i ≤ l.length → pq l i 0 = pq (l ++ e) i 0 := by
    intro i
    induction i with
    | zero => intro _; rfl
    | succ i ih =>
      intro hi
      have e2 : ∀ k, k ≤ i → pq l i k = pq (l ++ e) i k := by
        intro k
        induction k with
        | zero => intro _; exact ih (by omega)
        | succ k ih2 =>
          intro hk
          rw [pq_next, pq_next, ih2 (by omega)]
          have : dif l i k = dif (l ++ e) i k := by
            unfold dif
            simp only [List.getD]
            rw [List.getElem?_append_left (by omega), List.getElem?_append_left (by omega)]
          rw [this]
      rw [← pq_row, ← pq_row]
      exact e2 i (Nat.le_refl _)
  rw [e1 _ (Nat.le_refl _)]
  have e3 : ∀ (xs : List Int) (i j : Nat), ∃ t, pq xs (i + j) 0 = pq xs i 0 ++ t := by
    intro xs i j
    induction j with
    | zero => exact ⟨[], by simp⟩
    | succ j ih =>
      obtain ⟨t, ht⟩ := ih
      have e4 : ∀ k, ∃ t, pq xs (i + j) k = pq xs i 0 ++ t := by
        intro k
        induction k with
        | zero => exact ⟨t, ht⟩
        | succ k ih2 =>
          obtain ⟨t2, h2⟩ := ih2
          exact ⟨t2 ++ [dif xs (i + j) k], by rw [pq_next, h2, List.append_assoc]⟩
      obtain ⟨t2, h2⟩ := e4 (i + j)
      exact ⟨t2, by rw [show i + (j + 1) = i + j + 1 by omega, ← pq_row]; exact h2⟩
  obtain ⟨t, ht⟩ := e3 (l ++ e) l.length e.length
  rw [List.length_append, ht] at hd
  exact (List.nodup_append.1 hd).1
/-- A ruler is found by the search for its last mark. -/
theorem at_found {l : List Int} {last : Int} (hg : GoodM last l) (h0 : l.getD 0 0 = 0) (he : endOf l = last) (hr : rB l = true) : ∃ r, at_ l.length last = some r := by
  obtain ⟨g1, g2, g3⟩ := hg
  match l, g1 with
  | x :: ext, _ =>
    have hx : x = 0 := h0
    subst hx
    have := ds_found2 (fin := finL last) (rB := rB) (last := last) ext [0] (good0 (by have := g3 0 (by simp); omega)) ⟨by simp, g2, g3⟩ (decide_eq_true he) (fun l e hle h1 => rB_pre (e := e) (by rw [← hle]; exact g2) h1 (by rw [← hle]; exact hr))
    exact this
theorem gol : ∀ c : Fin 5, rB (([0, 1, 4, 9, 11] : List Int).take (c.val + 1)) = true := by decide
theorem gol_good : ∀ c : Fin 5, (([0, 1, 4, 9, 11] : List Int).take (c.val + 1)).Pairwise (· < ·) ∧ ([0, 1, 4, 9, 11] : List Int).take (c.val + 1) ≠ [] ∧ (∀ x ∈ ([0, 1, 4, 9, 11] : List Int).take (c.val + 1), 0 ≤ x ∧ x ≤ endOf (([0, 1, 4, 9, 11] : List Int).take (c.val + 1))) ∧ endOf (([0, 1, 4, 9, 11] : List Int).take (c.val + 1)) ≤ 30 ∧ (([0, 1, 4, 9, 11] : List Int).take (c.val + 1)).getD 0 0 = 0 ∧ (([0, 1, 4, 9, 11] : List Int).take (c.val + 1)).length = c.val + 1 ∧ 0 ≤ endOf (([0, 1, 4, 9, 11] : List Int).take (c.val + 1)) := by decide
/-- What the shortest ruler is. -/
structure Best (cnt : Nat) (b : List Int) : Prop where
  some_ : srt cnt = some b
  len : b.length = cnt
  zero : b.getD 0 0 = 0
  good : GoodM (endOf b) b
  top : endOf b ≤ 30
  ruler : rB b = true
theorem at_best {cnt : Nat} (h1 : 1 ≤ cnt) {m : Int} (h0 : 0 ≤ m) {b : List Int} (h : at_ cnt m = some b) : b.length = cnt ∧ b.getD 0 0 = 0 ∧ GoodM m b ∧ endOf b = m ∧ rB b = true := by
  obtain ⟨a1, a2, a3, a4⟩ := ds_is (cnt - 1) [0] b (good0 h0) rB0 h
  obtain ⟨ext, rfl⟩ := ds_pre _ _ _ h
  exact ⟨at_len h1 h0 h, rfl, a1, of_decide_eq_true a3, a2⟩
theorem best_is {cnt : Nat} (h1 : 1 ≤ cnt) (h5 : cnt ≤ 5) : ∃ b, Best cnt b := by
  obtain ⟨g1, g2, g3, g4, g5, g6, g7⟩ := gol_good ⟨cnt - 1, by omega⟩
  have hr := gol ⟨cnt - 1, by omega⟩
  dsimp only at g1 g2 g3 g4 g5 g6 g7 hr
  have hf := at_found ⟨by omega, g1, g3⟩ g5 rfl hr
  rw [g6] at hf
  rw [show cnt - 1 + 1 = cnt by omega] at hf g4 g7
  obtain ⟨q, hq⟩ := hf
  obtain ⟨b, hb⟩ := tryL_found (f := at_ cnt) 31 0 g7 (by omega) hq
  obtain ⟨m, m0, m1, hm⟩ := tryL_some _ _ hb
  obtain ⟨a1, a2, a3, a4, a5⟩ := at_best h1 m0 hm
  exact ⟨b, hb, a1, a2, a4 ▸ a3, by omega, a5⟩
/-- No ruler is shorter. -/
theorem best_le {l b : List Int} (hb : Best l.length b) (h1 : 1 ≤ l.length) (hg : GoodM (endOf l) l) (h0 : l.getD 0 0 = 0) (hr : rB l = true) : endOf b ≤ endOf l := by
  obtain ⟨q, hq⟩ := at_found hg h0 rfl hr
  have hn := (hg.2.2 _ (end_mem h1)).1
  obtain ⟨m, m0, m1, hm⟩ := tryL_first 31 0 hn hq hb.some_
  obtain ⟨_, _, _, a4, _⟩ := at_best h1 m0 hm
  omega
/-- What the fewest marks are. -/
structure Few (n : Nat) (b : List Int) : Prop where
  some_ : frF n = some b
  pos : 1 ≤ b.length
  len : b.length ≤ n + 1
  zero : b.getD 0 0 = 0
  good : GoodM (n : Int) b
  top : endOf b = (n : Int)
  full : H b = []
theorem few_at {n : Nat} {c : Int} (hc : 1 ≤ c) {b : List Int} (h : gF n c = some b) : b.length = c.toNat ∧ b.getD 0 0 = 0 ∧ GoodM (n : Int) b ∧ endOf b = (n : Int) ∧ H b = [] := by
  obtain ⟨a1, _, a3, _⟩ := ds_is (c.toNat - 1) [0] b (good0 (by omega)) rfl h
  have a3 := Bool.and_eq_true_iff.1 a3
  obtain ⟨ext, he⟩ := ds_pre _ _ _ h
  exact ⟨gF_len hc h, by rw [he]; rfl, a1, of_decide_eq_true a3.1, of_decide_eq_true a3.2⟩
theorem few_is {n : Nat} (h : n ≤ 12) : ∃ b, Few n b := by
  obtain ⟨b, hb⟩ := frF_some h
  obtain ⟨m, m0, m1, hm⟩ := tryL_some _ _ hb
  obtain ⟨a1, a2, a3, a4, a5⟩ := few_at m0 hm
  exact ⟨b, hb, by omega, by omega, a2, a3, a4, a5⟩
theorem few_le {n : Nat} {l b : List Int} (hb : Few n b) (hg : GoodM (n : Int) l) (h0 : l.getD 0 0 = 0) (he : endOf l = (n : Int)) (hH : H l = []) : b.length ≤ l.length := by
  obtain ⟨g1, g2, g3⟩ := hg
  have hf : ∃ q, gF n (l.length : Int) = some q := by
    unfold gF
    rw [Int.toNat_natCast]
    match l, g1 with
    | x :: ext, _ =>
      have hx : x = 0 := h0
      subst hx
      exact ds_found (fin := finH (n : Int)) (last := (n : Int)) ext [0] (good0 (by omega)) ⟨by simp, g2, g3⟩ (by unfold finH; exact Bool.and_eq_true_iff.2 ⟨decide_eq_true he, decide_eq_true hH⟩)
  obtain ⟨q, hq⟩ := hf
  obtain ⟨m, m0, m1, hm⟩ := tryL_first (n + 1) 1 (by omega) hq hb.some_
  obtain ⟨a1, _⟩ := few_at m0 hm
  omega

/-- The counts of the pairs so far. -/
def cts (xs : List Int) (n i k : Nat) : List Int := (List.range n).map fun (d : Nat) => (((pq xs i k).count (d : Int) : Nat) : Int)
theorem cts_len (xs : List Int) (n i k : Nat) : (cts xs n i k).length = n := by simp [cts]
theorem cts_at (xs : List Int) (n i k d : Nat) (h : d < n) : (cts xs n i k).getD d 0 = (((pq xs i k).count (d : Int) : Nat) : Int) := by simp [cts, List.getD, h]
theorem cts_zero (xs : List Int) (n : Nat) : cts xs n 0 0 = List.replicate n 0 := by
  refine List.ext_getElem (by simp [cts]) (fun i h1 h2 => ?_)
  simp [cts, pq]
theorem cts_next {xs : List Int} {n i k d : Nat} (hd : dif xs i k = (d : Int)) (h : d < n) : cts xs n i (k + 1) = (cts xs n i k).set d ((cts xs n i k).getD d 0 + 1) := by
  rw [cts_at _ _ _ _ _ h]
  refine List.ext_getElem (by simp [cts]) (fun j h1 h2 => ?_)
  rw [List.getElem_set]
  simp only [cts, List.getElem_map, List.getElem_range, pq_next, List.count_append, hd]
  by_cases e : d = j
  · subst e
    rw [if_pos rfl]
    simp
  · rw [if_neg e]
    rw [List.count_cons, List.count_nil]
    have : ¬ ((d : Int) == (j : Int)) = true := by simp; omega
    rw [if_neg this]
    rfl
def tw (xs : List Int) (i k : Nat) : Bool := !decide (pq xs i k).Nodup
theorem tw_next {xs : List Int} {n i k d : Nat} (hd : dif xs i k = (d : Int)) (h : d < n) : tw xs i (k + 1) = (tw xs i k || decide (1 < (cts xs n i k).getD d 0 + 1)) := by
  rw [cts_at _ _ _ _ _ h]
  unfold tw
  rw [pq_next, hd]
  have h2 : (decide (1 < (((pq xs i k).count (d : Int) : Nat) : Int) + 1)) = decide ((d : Int) ∈ pq xs i k) := by
    refine decide_eq_decide.2 ?_
    rw [← List.count_pos_iff]
    omega
  rw [h2]
  by_cases a : (pq xs i k).Nodup <;> by_cases b : (d : Int) ∈ pq xs i k <;> simp [nodup_snoc, a, b]
theorem cts_row (xs : List Int) (n i : Nat) : cts xs n i i = cts xs n (i + 1) 0 := by unfold cts; rw [pq_row]
theorem tw_row (xs : List Int) (i : Nat) : tw xs i i = tw xs (i + 1) 0 := by unfold tw; rw [pq_row]
theorem tw_rB {xs : List Int} (hp : xs.Pairwise (· < ·)) (h1 : 1 ≤ xs.length) : rB xs = !tw xs xs.length 0 := by
  unfold tw
  rw [Bool.not_not]
  have := rB_iff hp h1
  by_cases h : (pq xs xs.length 0).Nodup
  · rw [this.2 h, decide_eq_true h]
  · rw [decide_eq_false h]
    exact Bool.eq_false_iff.2 (fun e => h (this.1 e))
theorem pq_len2 (xs : List Int) (i k : Nat) : (pq xs i k).length = (pq xs i 0).length + k := by
  induction k with
  | zero => rfl
  | succ k ih => rw [pq_next, List.length_append, ih]; rfl

end Go.Proofs.Ytpmjheofjmdfeaa.rulLaw
