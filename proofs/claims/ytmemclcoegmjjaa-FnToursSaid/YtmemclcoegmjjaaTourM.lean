/- The shortest tour: partial orders and what is left of them. -/
import Derived.Test.YtmemclcoegmjjaaRows
import Derived.Test.YtmemclcoegmjjaaSlc
import Derived.Test.YtmemclcoegmjjaaSmall
import Derived.Test.YtmemclcoegmjjaaListI
import Derived.Test.YtmemclcoegmjjaaPlanNum
import Derived.Test.YtmemclcoegmjjaaDirsOk
import Derived.Test.YtmemclcoegmjjaaOrdC
import Derived.Test.YtmemclcoegmjjaaTourC
import Derived.Test.YtmemclcoegmjjaaTourN
import Derived.Test.YtmemclcoegmjjaaFarF
import Derived.WalkKit
import Derived.ProofKit
import Derived.OpenShut
import Derived.ShutString
import Derived.ChangeOld
import Derived.Below
import Derived.Lib.Hide
import Derived.BigQuiet
import Derived.Deep.QuietTactic
import Derived.WalkLawsBesides
import Derived.Outline
import Derived.Deep.LoopGhost
namespace Go.Proofs.Ytmemclcoegmjjaa.tourM
open Go.ChangeShapes Go.WideShapes Go.ChangeAt Go.RowKit
open Go.ChangeMaps (open_string shut_string)
set_option linter.unusedVariables false
open Go Go.RowKit
open Go.Proofs.Ytmemclcoegmjjaa.slc Go.Proofs.Ytmemclcoegmjjaa.small Go.Proofs.Ytmemclcoegmjjaa.listI Go.Proofs.Ytmemclcoegmjjaa.planNum Go.Proofs.Ytmemclcoegmjjaa.dirsOk Go.Proofs.Ytmemclcoegmjjaa.ordC Go.Proofs.Ytmemclcoegmjjaa.tourC Go.Proofs.Ytmemclcoegmjjaa.tourN Go.Proofs.Ytmemclcoegmjjaa.farF

/-- Where a partial order ends. -/
def lp (p : List Nat) : Nat := p.getD (p.length - 1) 0
theorem lp_snoc (p : List Nat) (k : Nat) : lp (p ++ [k]) = k := by
  unfold lp
  simp [List.getD]
theorem lp_mem {p : List Nat} (h : p ≠ []) : lp p ∈ p := by
  unfold lp
  have hl : p.length - 1 < p.length := by have := List.length_pos_iff.2 h; omega
  rw [show p.getD (p.length - 1) 0 = p[p.length - 1] by simp [List.getD, hl]]
  exact List.getElem_mem hl
theorem ot_gz (p : List Nat) (i : Nat) : ot (gz p) i = p.getD i 0 := by
  unfold ot gz
  by_cases h : i < p.length
  · simp [List.getD, h]
  · simp [List.getD, h]
/-- A partial order p of n, and the set m of those that are left. -/
structure Inv (n : Nat) (p : List Nat) (m : Nat) : Prop where
  ne : p ≠ []
  head : p.getD 0 0 = 0
  rng : ∀ x ∈ p, x < n
  lt : m < 2 ^ n
  mask : ∀ k, k < n → m.testBit k = !decide (k ∈ p)
  cnt : p.length + pc m = n
theorem start_tab : ∀ n : Nat, n < 8 → 1 ≤ n → 1 + pc (2 ^ n - 2) = n ∧ ∀ k : Nat, k < n → (2 ^ n - 2).testBit k = !decide (k = 0) := by decide +kernel
theorem Inv.start {n : Nat} (h1 : 1 ≤ n) (h7 : n ≤ 7) : Inv n [0] (2 ^ n - 2) := by
  obtain ⟨a, b⟩ := start_tab n (by omega) h1
  have hp : 0 < 2 ^ n := Nat.pos_of_ne_zero (by simp)
  exact ⟨by simp, rfl, by simp; omega, by omega, fun k hk => by rw [b k hk]; simp, a⟩
theorem Inv.next {n m k : Nat} {p : List Nat} (h : Inv n p m) (h7 : n ≤ 7) (hk : k < n) (hb : m.testBit k = true) : Inv n (p ++ [k]) (m - 2 ^ k) := by
  have h2 := two_le h7
  have hl := h.lt
  obtain ⟨e1, e2⟩ := clr m (by omega) k (by omega) hb
  refine ⟨by simp, ?_, fun x hx => ?_, Nat.lt_of_le_of_lt (Nat.sub_le _ _) hl, fun j hj => ?_, ?_⟩
  · have := h.head
    have hp := List.length_pos_iff.2 h.ne
    rw [List.getD, List.getElem?_append_left hp]
    exact this
  · rcases List.mem_append.1 hx with hx | hx
    · exact h.rng x hx
    · rw [List.mem_singleton] at hx; omega
  · rw [e2 j (by omega), h.mask j hj]
    simp [List.mem_append, Bool.not_or]
  · have := h.cnt
    rw [List.length_append, List.length_singleton]
    omega
theorem Inv.full {n m : Nat} {p : List Nat} (h : Inv n p m) (h7 : n ≤ 7) : (p.length = n ↔ m = 0) := by
  have h2 := two_le h7
  have hl := h.lt
  have := h.cnt
  rw [← pc_zero m (by omega)]
  omega
theorem Inv.lp_lt {n m : Nat} {p : List Nat} (h : Inv n p m) : lp p < n := h.rng _ (lp_mem h.ne)
/-- The ticks of a partial order. -/
def pth (ds : List (Int × Int)) (p : List Nat) : Int := ssm ds (gz p) (p.length - 1)
theorem ssm_left (ds : List (Int × Int)) (p : List Nat) (k : Nat) : ∀ j, j < p.length → ssm ds (gz (p ++ [k])) j = ssm ds (gz p) j
  | 0, _ => rfl
  | j + 1, h => by
    show ssm ds (gz (p ++ [k])) j + tk ds _ _ = ssm ds (gz p) j + tk ds _ _
    rw [ssm_left ds p k j (by omega), ot_gz, ot_gz, ot_gz, ot_gz]
    simp only [List.getD, List.getElem?_append_left (show j < p.length by omega), List.getElem?_append_left (show j + 1 < p.length by omega)]
theorem pth_snoc (ds : List (Int × Int)) {p : List Nat} (k : Nat) (h : p ≠ []) : pth ds (p ++ [k]) = pth ds p + tk ds (lp p) k := by
  have hp := List.length_pos_iff.2 h
  obtain ⟨q, hq⟩ : ∃ q, p.length = q + 1 := ⟨p.length - 1, by omega⟩
  unfold pth
  rw [List.length_append, List.length_singleton, hq]
  show ssm ds (gz (p ++ [k])) (q + 1) = ssm ds (gz p) q + tk ds (lp p) k
  show ssm ds (gz (p ++ [k])) q + tk ds _ _ = _
  rw [ssm_left ds p k q (by omega), ot_gz, ot_gz]
  rw [show (p ++ [k]).getD (q + 1) 0 = k by simp [List.getD, hq]]
  rw [show (p ++ [k]).getD q 0 = lp p by
    unfold lp
    rw [hq]
    simp only [List.getD, List.getElem?_append_left (show q < p.length by omega), Nat.add_sub_cancel]]
/-- What the search tells of a partial order. -/
def TL (ds : List (Int × Int)) (n : Nat) (p : List Nat) (m : Nat) : List Nat := p ++ G n (tk ds) (lp p) m
def TV (ds : List (Int × Int)) (n : Nat) (p : List Nat) (m : Nat) : Int := pth ds p + L n (tk ds) (lp p) m
theorem TV_full (ds : List (Int × Int)) {n : Nat} {p : List Nat} (h : Inv n p 0) : TL ds n p 0 = p ∧ TV ds n p 0 = pim ds (gz p) (gz p).length := by
  unfold TL TV
  rw [G_zero, L_zero, List.append_nil]
  refine ⟨rfl, ?_⟩
  have hp := List.length_pos_iff.2 h.ne
  obtain ⟨q, hq⟩ : ∃ q, p.length = q + 1 := ⟨p.length - 1, by omega⟩
  rw [gz_len, hq]
  show _ = tk ds (ot (gz p) ((gz p).length - 1)) (ot (gz p) 0) + ssm ds (gz p) q
  rw [ot_gz, ot_gz, gz_len, h.head]
  unfold pth lp
  rw [hq]
  show ssm ds (gz p) q + tk ds (p.getD q 0) 0 = _
  rw [show q + 1 - 1 = q by omega]
  omega
theorem TV_next (ds : List (Int × Int)) {n m k : Nat} {p : List Nat} (h : Inv n p m) : TV ds n (p ++ [k]) (m - 2 ^ k) = pth ds p + V n (tk ds) (lp p) m k := by
  unfold TV V
  rw [pth_snoc ds k h.ne, lp_snoc]
  omega
theorem TL_next (ds : List (Int × Int)) {n m k : Nat} {p : List Nat} (hm : m ≠ 0) (hk : fm (V n (tk ds) (lp p) m) m n = some k) : TL ds n (p ++ [k]) (m - 2 ^ k) = TL ds n p m := by
  unfold TL
  rw [G_pos hm hk, lp_snoc]
  simp
theorem TV_best (ds : List (Int × Int)) {n m k : Nat} {p : List Nat} (hm : m ≠ 0) (hk : fm (V n (tk ds) (lp p) m) m n = some k) : TV ds n p m = pth ds p + V n (tk ds) (lp p) m k := by
  unfold TV
  rw [L_pos hm hk]
theorem TL_len (ds : List (Int × Int)) {n m : Nat} {p : List Nat} (h : Inv n p m) (h7 : n ≤ 7) : (TL ds n p m).length = n ∧ ∀ x ∈ TL ds n p m, x < n := by
  obtain ⟨a, b⟩ := G_len h7 (tk ds) m (lp p) m (Nat.le_refl _) h.lt
  unfold TL
  refine ⟨by rw [List.length_append, a]; exact h.cnt, fun x hx => ?_⟩
  rcases List.mem_append.1 hx with hx | hx
  · exact h.rng x hx
  · exact b x hx
theorem tk_bds {ds : List (Int × Int)} (h : db ds = true) : ∀ a b, a < ds.length → b < ds.length → 0 ≤ tk ds a b ∧ tk ds a b ≤ 8 := fun a b ha hb => sw_bd (db_at h ha) (db_at h hb)
theorem pth_bd {ds : List (Int × Int)} (h : db ds = true) : ∀ (p : List Nat), p ≠ [] → (∀ x ∈ p, x < ds.length) → 0 ≤ pth ds p ∧ pth ds p ≤ 8 * p.length := by
  intro p hp hr
  have key : ∀ j, j < p.length → 0 ≤ ssm ds (gz p) j ∧ ssm ds (gz p) j ≤ 8 * j := by
    intro j
    induction j with
    | zero => intro _; exact ⟨Int.le_refl _, by show (0 : Int) ≤ _; omega⟩
    | succ j ih =>
      intro hj
      have a := ih (by omega)
      have at_ : ∀ i, i < p.length → ot (gz p) i < ds.length := fun i hi => by
        rw [ot_gz, show p.getD i 0 = p[i] by simp [List.getD, hi]]
        exact hr _ (List.getElem_mem hi)
      have b := tk_bds h _ _ (at_ j (by omega)) (at_ (j + 1) hj)
      show 0 ≤ ssm ds (gz p) j + tk ds _ _ ∧ ssm ds (gz p) j + tk ds _ _ ≤ _
      omega
  have hl := List.length_pos_iff.2 hp
  have := key (p.length - 1) (by omega)
  unfold pth
  omega
theorem TV_bd {ds : List (Int × Int)} (h : db ds = true) {m : Nat} {p : List Nat} (hi : Inv ds.length p m) : 0 ≤ TV ds ds.length p m ∧ TV ds ds.length p m ≤ 200 := by
  obtain ⟨l1, l7⟩ := db_len h
  have a := pth_bd h p hi.ne hi.rng
  have b := L_bd l7 l1 (tk_bds h) m (lp p) m (Nat.le_refl _) hi.lp_lt hi.lt
  have c := hi.cnt
  unfold TV
  omega
theorem Inv.ook {ds : List (Int × Int)} (h : db ds = true) {p : List Nat} (hi : Inv ds.length p 0) : OOk ds (gz p) := by
  obtain ⟨l1, l7⟩ := db_len h
  have := (hi.full l7).2 rfl
  refine ⟨by rw [gz_len]; exact this, l1, l7, fun k hk => db_at h hk, fun k hk => ?_⟩
  rw [gz_len] at hk
  rw [ot_gz]
  have e : p.getD k 0 = p[k] := by simp [List.getD, hk]
  rw [e]
  exact ⟨by simp [gz], hi.rng _ (List.getElem_mem hk)⟩
/-- What the loop holds behind k of the indices: nothing yet, or the first best one. -/
def bestL (ds : List (Int × Int)) (n : Nat) (p : List Nat) (m k : Nat) : List Nat := match fm (V n (tk ds) (lp p) m) m k with | none => [] | some q => TL ds n (p ++ [q]) (m - 2 ^ q)
def bestV (ds : List (Int × Int)) (n : Nat) (p : List Nat) (m k : Nat) : Int := match fm (V n (tk ds) (lp p) m) m k with | none => -1 | some q => TV ds n (p ++ [q]) (m - 2 ^ q)
theorem best_skip (ds : List (Int × Int)) (n : Nat) (p : List Nat) (m : Nat) {k : Nat} (hb : m.testBit k = false) : bestL ds n p m (k + 1) = bestL ds n p m k ∧ bestV ds n p m (k + 1) = bestV ds n p m k := by
  have : fm (V n (tk ds) (lp p) m) m (k + 1) = fm (V n (tk ds) (lp p) m) m k := by
    rw [fm, if_neg (by simp [hb])]
  unfold bestL bestV
  rw [this]
  exact ⟨rfl, rfl⟩
theorem best_take (ds : List (Int × Int)) {n m k : Nat} {p : List Nat} (h : Inv n p m) (hb : m.testBit k = true) (hl : bestV ds n p m k < 0 ∨ TV ds n (p ++ [k]) (m - 2 ^ k) < bestV ds n p m k) (hpos : ∀ q, q < k → m.testBit q = true → 0 ≤ TV ds n (p ++ [q]) (m - 2 ^ q)) :
    bestL ds n p m (k + 1) = TL ds n (p ++ [k]) (m - 2 ^ k) ∧ bestV ds n p m (k + 1) = TV ds n (p ++ [k]) (m - 2 ^ k) := by
  have : fm (V n (tk ds) (lp p) m) m (k + 1) = some k := by
    rw [fm, if_pos hb]
    unfold bestV at hl
    cases hf : fm (V n (tk ds) (lp p) m) m k with
    | none => rfl
    | some q =>
      rw [hf] at hl
      obtain ⟨a1, a2, _, _⟩ := fm_is hf
      have hq := hpos q a1 a2
      simp only [] at hl
      have : TV ds n (p ++ [k]) (m - 2 ^ k) < TV ds n (p ++ [q]) (m - 2 ^ q) := by omega
      rw [TV_next ds h, TV_next ds h] at this
      simp only []
      rw [if_pos (by omega)]
  unfold bestL bestV
  rw [this]
  exact ⟨rfl, rfl⟩
theorem best_keep (ds : List (Int × Int)) {n m k : Nat} {p : List Nat} (h : Inv n p m) (hb : m.testBit k = true) (hl : ¬ (bestV ds n p m k < 0 ∨ TV ds n (p ++ [k]) (m - 2 ^ k) < bestV ds n p m k)) :
    bestL ds n p m (k + 1) = bestL ds n p m k ∧ bestV ds n p m (k + 1) = bestV ds n p m k := by
  have : fm (V n (tk ds) (lp p) m) m (k + 1) = fm (V n (tk ds) (lp p) m) m k := by
    rw [fm, if_pos hb]
    unfold bestV at hl
    cases hf : fm (V n (tk ds) (lp p) m) m k with
    | none => rw [hf] at hl; exact absurd (Or.inl (show (-1 : Int) < 0 by decide)) hl
    | some q =>
      rw [hf] at hl
      simp only [] at hl
      have : ¬ TV ds n (p ++ [k]) (m - 2 ^ k) < TV ds n (p ++ [q]) (m - 2 ^ q) := fun e => hl (Or.inr e)
      rw [TV_next ds h, TV_next ds h] at this
      simp only []
      rw [if_neg (by omega)]
  unfold bestL bestV
  rw [this]
  exact ⟨rfl, rfl⟩
theorem best_end (ds : List (Int × Int)) {n m : Nat} {p : List Nat} (h : Inv n p m) (hm : m ≠ 0) : bestL ds n p m n = TL ds n p m ∧ bestV ds n p m n = TV ds n p m := by
  obtain ⟨q, hq⟩ := found (tk ds) (lp p) hm h.lt
  unfold bestL bestV
  rw [hq]
  exact ⟨TL_next ds hm hq, (TV_next ds h).trans (TV_best ds hm hq).symm⟩

end Go.Proofs.Ytmemclcoegmjjaa.tourM
