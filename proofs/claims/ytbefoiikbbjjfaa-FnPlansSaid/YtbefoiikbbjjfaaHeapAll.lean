/- Heaps of pairs in a list: what is moved up and down, and what stays. -/
/- The methods of a queue, found. -/
/- Queues of jobs in memory: their methods. -/
/- Queues of jobs in memory: up and down. -/
/- Queues of jobs in memory: push and pop. -/
import Derived.Test.YtbefoiikbbjjfaaRows
import Derived.Test.YtbefoiikbbjjfaaSlc
import Derived.Test.YtbefoiikbbjjfaaSmall
import Derived.Test.YtbefoiikbbjjfaaOpens
import Derived.Test.YtbefoiikbbjjfaaListDir
import Derived.Test.YtbefoiikbbjjfaaListI
import Derived.Test.YtbefoiikbbjjfaaNestI
import Derived.Test.YtbefoiikbbjjfaaPlanNum
import Derived.Test.YtbefoiikbbjjfaaSwT
import Derived.Test.YtbefoiikbbjjfaaBeamsOk
import Derived.Test.YtbefoiikbbjjfaaPlanAll
import Derived.Test.YtbefoiikbbjjfaaBeams
import Derived.Test.YtbefoiikbbjjfaaListBeam
import Derived.Test.YtbefoiikbbjjfaaFarF
import Derived.Test.YtbefoiikbbjjfaaNestG
import Derived.WalkKit
import Derived.ProofKit
import Derived.OpenShut
import Derived.ShutString
import Derived.ChangeOld
import Derived.Below
import Derived.Lib.Hide
import Derived.BigQuiet
import Derived.Deep.QuietTactic
import Derived.WalkLawsBesides
import Derived.Outline
import Derived.Deep.LoopGhost
import Derived.BigRegion
import Derived.Deep.RegionHeld3
import Derived.Deep.RegionWith
import Derived.Maps.AppendAt
import Derived.RangeFuncBox
namespace Go.Proofs.Ytbefoiikbbjjfaa.heapN
set_option linter.unusedVariables false
set_option linter.unusedVariables false

abbrev Jb := Int × Int
def key (x : Jb) : Int := x.1 * 8 + x.2
def jg (L : List Jb) (i : Nat) : Jb := L.getD i (0, 0)
def ky (L : List Jb) (i : Nat) : Int := key (jg L i)
/-- One job comes before another. -/
def lts (a b : Jb) : Bool := if a.1 = b.1 then decide (a.2 < b.2) else decide (a.1 < b.1)
def Sm (L : List Jb) : Prop := ∀ x ∈ L, 0 ≤ x.2 ∧ x.2 < 8
theorem lts_key {a b : Jb} (ha : 0 ≤ a.2 ∧ a.2 < 8) (hb : 0 ≤ b.2 ∧ b.2 < 8) : lts a b = decide (key a < key b) := by
  unfold lts key
  split
  · rw [decide_eq_decide]; omega
  · rw [decide_eq_decide]; omega
theorem jg_mem {L : List Jb} {i : Nat} (h : i < L.length) : jg L i ∈ L := by
  unfold jg
  simp only [List.getD, List.getElem?_eq_getElem h, Option.getD_some]
  exact List.getElem_mem h
theorem Sm.at_ {L : List Jb} (h : Sm L) {i : Nat} (hi : i < L.length) : 0 ≤ (jg L i).2 ∧ (jg L i).2 < 8 := h _ (jg_mem hi)
theorem lts_ky {L : List Jb} (h : Sm L) {i j : Nat} (hi : i < L.length) (hj : j < L.length) : lts (jg L i) (jg L j) = decide (ky L i < ky L j) := lts_key (h.at_ hi) (h.at_ hj)
def swp (L : List Jb) (i j : Nat) : List Jb := (L.set i (jg L j)).set j (jg L i)
theorem swp_len (L : List Jb) (i j : Nat) : (swp L i j).length = L.length := by simp [swp]
theorem swp_at {L : List Jb} {i j : Nat} (hi : i < L.length) (hj : j < L.length) (k : Nat) : jg (swp L i j) k = if k = j then jg L i else if k = i then jg L j else jg L k := by
  unfold swp jg
  simp only [List.getD, List.getElem?_set, List.length_set]
  by_cases h1 : k = j
  · subst h1
    rw [if_pos rfl, if_pos hj, if_pos rfl]
    rfl
  · rw [if_neg (fun e => h1 e.symm), if_neg h1]
    by_cases h2 : k = i
    · subst h2
      rw [if_pos rfl, if_pos hi, if_pos rfl]
      rfl
    · rw [if_neg (fun e => h2 e.symm), if_neg h2]
theorem swp_ky {L : List Jb} {i j : Nat} (hi : i < L.length) (hj : j < L.length) (k : Nat) : ky (swp L i j) k = if k = j then ky L i else if k = i then ky L j else ky L k := by
  unfold ky
  rw [swp_at hi hj]
  split
  · rfl
  · split <;> rfl
theorem swp_perm {L : List Jb} {i j : Nat} (hi : i < L.length) (hj : j < L.length) : (swp L i j).Perm L := by
  have h := Array.swap_perm (xs := L.toArray) (i := i) (j := j) (by simpa using hi) (by simpa using hj)
  have h2 := Array.perm_iff_toList_perm.1 h
  have e : (L.toArray.swap i j (by simpa using hi) (by simpa using hj)).toList = swp L i j := by
    unfold swp jg
    simp [Array.swap, List.getD, List.getElem?_eq_getElem hi, List.getElem?_eq_getElem hj]
  rw [e] at h2
  exact h2
theorem Sm.perm {L L' : List Jb} (h : Sm L) (hp : L'.Perm L) : Sm L' := fun x hx => h x (hp.mem_iff.1 hx)

/-! ## up -/
def upF (L : List Jb) (j : Nat) : List Jb :=
  if h : j = 0 then L else if lts (jg L j) (jg L ((j - 1) / 2)) = true then upF (swp L ((j - 1) / 2) j) ((j - 1) / 2) else L
termination_by j
decreasing_by omega
theorem up_zero (L : List Jb) : upF L 0 = L := by rw [upF]; simp
theorem up_stop {L : List Jb} {j : Nat} (h : lts (jg L j) (jg L ((j - 1) / 2)) = false) : upF L j = L := by rw [upF]; split <;> simp [h]
theorem up_go {L : List Jb} {j : Nat} (h0 : j ≠ 0) (h : lts (jg L j) (jg L ((j - 1) / 2)) = true) : upF L j = upF (swp L ((j - 1) / 2) j) ((j - 1) / 2) := by rw [upF, dif_neg h0, if_pos h]
/-- A heap. -/
def Hp (L : List Jb) (n : Nat) : Prop := ∀ c, 0 < c → c < n → ky L ((c - 1) / 2) ≤ ky L c
structure Up (L : List Jb) (j : Nat) : Prop where
  ok : ∀ c, 0 < c → c < L.length → c ≠ j → ky L ((c - 1) / 2) ≤ ky L c
  sub : 0 < j → ∀ c, 0 < c → c < L.length → (c - 1) / 2 = j → ky L ((j - 1) / 2) ≤ ky L c
theorem up_all : ∀ (j : Nat) (L : List Jb), j < L.length → Sm L → Up L j → (upF L j).Perm L ∧ Hp (upF L j) L.length := by
  intro j
  induction j using Nat.strongRecOn with
  | _ j ih =>
    intro L hj hs hu
    by_cases h0 : j = 0
    · subst h0
      rw [up_zero]
      exact ⟨List.Perm.refl _, fun c h1 h2 => hu.ok c h1 h2 (by omega)⟩
    · have hp : (j - 1) / 2 < j := by omega
      cases hl : lts (jg L j) (jg L ((j - 1) / 2))
      · rw [up_stop hl]
        rw [lts_ky hs hj (by omega)] at hl
        have hl := of_decide_eq_false hl
        refine ⟨List.Perm.refl _, fun c h1 h2 => ?_⟩
        by_cases e : c = j
        · subst e; omega
        · exact hu.ok c h1 h2 e
      · rw [up_go h0 hl]
        rw [lts_ky hs hj (by omega)] at hl
        have hl := of_decide_eq_true hl
        have hip : (j - 1) / 2 < L.length := by omega
        have hpm := swp_perm hip hj
        obtain ⟨a, b⟩ := ih ((j - 1) / 2) hp (swp L ((j - 1) / 2) j) (by rw [swp_len]; exact hip) (hs.perm hpm) ⟨fun c h1 h2 h3 => by
          rw [swp_len] at h2
          rw [swp_ky hip hj, swp_ky hip hj]
          by_cases e : c = j
          · subst e
            rw [if_neg (by omega), if_pos rfl, if_pos rfl]
            omega
          · rw [if_neg e, if_neg h3]
            by_cases e2 : (c - 1) / 2 = j
            · rw [if_pos e2]
              exact hu.sub (by omega) c h1 h2 e2
            · rw [if_neg e2]
              have := hu.ok c h1 h2 e
              split
              · rename_i e3; rw [e3] at this; omega
              · exact this, fun h1 c h2 h3 h4 => by
          rw [swp_len] at h3
          rw [swp_ky hip hj, swp_ky hip hj]
          rw [if_neg (by omega), if_neg (by omega)]
          have hj2 := hu.ok ((j - 1) / 2) h1 hip (by omega)
          by_cases e : c = j
          · rw [if_pos e]; exact hj2
          · rw [if_neg e, if_neg (by omega)]
            have := hu.ok c h2 h3 e
            rw [h4] at this
            omega⟩
        rw [swp_len] at b
        exact ⟨a.trans hpm, b⟩
theorem push_all {L : List Jb} {x : Jb} (hs : Sm L) (hx : 0 ≤ x.2 ∧ x.2 < 8) (hh : Hp L L.length) : (upF (L ++ [x]) L.length).Perm (x :: L) ∧ Hp (upF (L ++ [x]) L.length) (L.length + 1) := by
  have hs2 : Sm (L ++ [x]) := fun y hy => by
    rcases List.mem_append.1 hy with h | h
    · exact hs y h
    · rw [List.mem_singleton.1 h]; exact hx
  have hk : ∀ c, c < L.length → ky (L ++ [x]) c = ky L c := fun c hc => by
    unfold ky jg
    rw [List.getD, List.getD, List.getElem?_append_left hc]
  obtain ⟨a, b⟩ := up_all L.length (L ++ [x]) (by simp) hs2 ⟨fun c h1 h2 h3 => by
    simp at h2
    rw [hk c (by omega), hk _ (by omega)]
    exact hh c h1 (by omega), fun h1 c h2 h3 h4 => by simp at h3; omega⟩
  rw [List.length_append, List.length_singleton] at b
  exact ⟨a.trans (List.perm_append_singleton x L), b⟩
theorem up_len : ∀ (j : Nat) (L : List Jb), (upF L j).length = L.length := by
  intro j
  induction j using Nat.strongRecOn with
  | _ j ih =>
    intro L
    rw [upF]
    split
    · rfl
    · split
      · rw [ih _ (by omega), swp_len]
      · rfl

/-! ## down -/
def ch (L : List Jb) (i n : Nat) : Nat := if 2 * i + 2 < n ∧ lts (jg L (2 * i + 2)) (jg L (2 * i + 1)) = true then 2 * i + 2 else 2 * i + 1
def downF (L : List Jb) (i n : Nat) : List Jb :=
  if h : 2 * i + 1 < n then (if lts (jg L (ch L i n)) (jg L i) = true then downF (swp L i (ch L i n)) (ch L i n) n else L) else L
termination_by n - i
decreasing_by unfold ch; split <;> omega
theorem ch_lt (L : List Jb) {i n : Nat} (h : 2 * i + 1 < n) : ch L i n < n ∧ i < ch L i n ∧ (ch L i n - 1) / 2 = i ∧ 0 < ch L i n := by unfold ch; split <;> omega
theorem down_end {L : List Jb} {i n : Nat} (h : ¬ 2 * i + 1 < n) : downF L i n = L := by rw [downF, dif_neg h]
theorem down_stop {L : List Jb} {i n : Nat} (h : lts (jg L (ch L i n)) (jg L i) = false) : downF L i n = L := by rw [downF]; split <;> simp [h]
theorem down_go {L : List Jb} {i n : Nat} (h0 : 2 * i + 1 < n) (h : lts (jg L (ch L i n)) (jg L i) = true) : downF L i n = downF (swp L i (ch L i n)) (ch L i n) n := by rw [downF, dif_pos h0, if_pos h]
structure Dn (L : List Jb) (i n : Nat) : Prop where
  ok : ∀ c, 0 < c → c < n → (c - 1) / 2 ≠ i → ky L ((c - 1) / 2) ≤ ky L c
  sub : 0 < i → ∀ c, 0 < c → c < n → (c - 1) / 2 = i → ky L ((i - 1) / 2) ≤ ky L c
theorem down_all : ∀ (m i : Nat) (L : List Jb) (n : Nat), n - i ≤ m → i < n ∨ n = 0 → n ≤ L.length → Sm L → Dn L i n → (downF L i n).Perm L ∧ Hp (downF L i n) n ∧ ∀ k, n ≤ k → jg (downF L i n) k = jg L k := by
  intro m
  induction m with
  | zero =>
    intro i L n h1 h2 h3 hs hd
    rw [down_end (by omega)]
    exact ⟨List.Perm.refl _, fun c h4 h5 => by omega, fun _ _ => rfl⟩
  | succ m ih =>
    intro i L n h1 h2 h3 hs hd
    by_cases h0 : 2 * i + 1 < n
    · obtain ⟨c1, c2, c3, c4⟩ := ch_lt L h0
      have hmin : ∀ c, 0 < c → c < n → (c - 1) / 2 = i → ky L (ch L i n) ≤ ky L c := fun c h4 h5 h6 => by
        have hc : c = 2 * i + 1 ∨ c = 2 * i + 2 := by omega
        unfold ch
        by_cases hr : 2 * i + 2 < n
        · cases hl : lts (jg L (2 * i + 2)) (jg L (2 * i + 1))
          · rw [if_neg (by simp)]
            rw [lts_ky hs (by omega) (by omega)] at hl
            have hl := of_decide_eq_false hl
            rcases hc with rfl | rfl <;> omega
          · rw [if_pos ⟨hr, rfl⟩]
            rw [lts_ky hs (by omega) (by omega)] at hl
            have hl := of_decide_eq_true hl
            rcases hc with rfl | rfl <;> omega
        · rw [if_neg (by omega)]
          rcases hc with rfl | rfl <;> omega
      cases hl : lts (jg L (ch L i n)) (jg L i)
      · rw [down_stop hl]
        rw [lts_ky hs (by omega) (by omega)] at hl
        have hl := of_decide_eq_false hl
        refine ⟨List.Perm.refl _, fun c h4 h5 => ?_, fun _ _ => rfl⟩
        by_cases e : (c - 1) / 2 = i
        · rw [e]; have := hmin c h4 h5 e; omega
        · exact hd.ok c h4 h5 e
      · rw [down_go h0 hl]
        rw [lts_ky hs (by omega) (by omega)] at hl
        have hl := of_decide_eq_true hl
        generalize hj : ch L i n = j at *
        have hil : i < L.length := by omega
        have hjl : j < L.length := by omega
        have hpm := swp_perm hil hjl
        obtain ⟨a, b, d⟩ := ih j (swp L i j) n (by omega) (by omega) (by rw [swp_len]; exact h3) (hs.perm hpm) ⟨fun c h4 h5 h6 => by
          rw [swp_ky hil hjl, swp_ky hil hjl, if_neg h6]
          by_cases e : (c - 1) / 2 = i
          · rw [if_pos e]
            by_cases e2 : c = j
            · rw [if_pos e2]; omega
            · rw [if_neg e2, if_neg (by omega)]; exact hmin c h4 h5 e
          · rw [if_neg e]
            have h7 := hd.ok c h4 h5 e
            by_cases e2 : c = j
            · subst e2; exact absurd c3 e
            · rw [if_neg e2]
              by_cases e3 : c = i
              · subst e3
                rw [if_pos rfl]
                exact hd.sub h4 j c4 c1 c3
              · rw [if_neg e3]; exact h7, fun h4 c h5 h6 h7 => by
          rw [swp_ky hil hjl, swp_ky hil hjl, c3, if_neg (by omega), if_pos rfl, if_neg (by omega), if_neg (by omega)]
          have := hd.ok c h5 h6 (by omega)
          rw [h7] at this
          exact this⟩
        refine ⟨a.trans hpm, b, fun k hk => ?_⟩
        rw [d k hk, swp_at hil hjl, if_neg (by omega), if_neg (by omega)]
    · rw [down_end h0]
      exact ⟨List.Perm.refl _, fun c h4 h5 => by
        by_cases e : (c - 1) / 2 = i
        · omega
        · exact hd.ok c h4 h5 e, fun _ _ => rfl⟩
theorem Hp.root {L : List Jb} {n : Nat} (h : Hp L n) : ∀ c, c < n → ky L 0 ≤ ky L c := by
  intro c
  induction c using Nat.strongRecOn with
  | _ c ih =>
    intro hc
    by_cases h0 : c = 0
    · subst h0; exact Int.le_refl _
    · have h1 := h c (by omega) hc
      have h2 := ih ((c - 1) / 2) (by omega) (by omega)
      omega
/-- What is left behind a pop. -/
def popF (L : List Jb) : List Jb := (downF (swp L 0 (L.length - 1)) 0 (L.length - 1)).take (L.length - 1)
theorem down_len : ∀ (m i : Nat) (L : List Jb) (n : Nat), n - i ≤ m → (downF L i n).length = L.length := by
  intro m
  induction m with
  | zero => intro i L n h; rw [down_end (by omega)]
  | succ m ih =>
    intro i L n h
    by_cases h0 : 2 * i + 1 < n
    · obtain ⟨c1, c2, _, _⟩ := ch_lt L h0
      cases hl : lts (jg L (ch L i n)) (jg L i)
      · rw [down_stop hl]
      · rw [down_go h0 hl, ih _ _ _ (by omega), swp_len]
    · rw [down_end h0]
theorem pop_all {L : List Jb} (h0 : 0 < L.length) (hs : Sm L) (hh : Hp L L.length) :
    jg (downF (swp L 0 (L.length - 1)) 0 (L.length - 1)) (L.length - 1) = jg L 0 ∧ L.Perm (jg L 0 :: popF L) ∧ Hp (popF L) (L.length - 1) ∧ (popF L).length = L.length - 1 := by
  obtain ⟨n, hn⟩ : ∃ n, L.length = n + 1 := ⟨L.length - 1, by omega⟩
  unfold popF
  rw [show L.length - 1 = n by omega]
  have h1 : n < L.length := by omega
  have hpm := swp_perm h0 h1
  obtain ⟨a, b, d⟩ := down_all n 0 (swp L 0 n) n (by omega) (by omega) (by rw [swp_len]; omega) (hs.perm hpm) ⟨fun c h2 h3 h4 => by
    rw [swp_ky h0 h1, swp_ky h0 h1, if_neg (by omega), if_neg (by omega), if_neg (by omega), if_neg (by omega)]
    exact hh c h2 (by omega), fun h2 => by omega⟩
  have e := d n (Nat.le_refl _)
  rw [swp_at h0 h1, if_pos rfl] at e
  have hl : (downF (swp L 0 n) 0 n).length = n + 1 := by rw [down_len n 0 _ _ (by omega), swp_len, hn]
  have hsplit : downF (swp L 0 n) 0 n = (downF (swp L 0 n) 0 n).take n ++ [jg L 0] := by
    conv => lhs; rw [← List.take_append_drop n (downF (swp L 0 n) 0 n)]
    rw [List.drop_eq_getElem_cons (by omega), List.drop_eq_nil_of_le (by omega)]
    rw [← e]
    unfold jg
    simp [List.getD, List.getElem?_eq_getElem (show n < (downF (swp L 0 n) 0 n).length by omega)]
  refine ⟨e, ?_, fun c h2 h3 => ?_, by simp; omega⟩
  · have h2 := (a.trans hpm).symm
    rw [hsplit] at h2
    exact h2.trans (List.perm_append_singleton _ _)
  · have := b c h2 h3
    unfold ky jg at this ⊢
    rw [List.getD, List.getD, List.getElem?_take, List.getElem?_take, if_pos (by omega), if_pos (by omega)]
    exact this

end Go.Proofs.Ytbefoiikbbjjfaa.heapN

namespace Go.Proofs.Ytbefoiikbbjjfaa.heapM
open Go.ChangeShapes Go.WideShapes Go.ChangeAt Go.RowKit
open Go.ChangeMaps (open_string shut_string)
set_option linter.unusedVariables false
open Go Go.RowKit
open Go.Proofs.Ytbefoiikbbjjfaa.slc Go.Proofs.Ytbefoiikbbjjfaa.small Go.Proofs.Ytbefoiikbbjjfaa.opens Go.Proofs.Ytbefoiikbbjjfaa.heapN

theorem m_push (n : Nat) (a : Addr) (w : World) : (method (n + 1) 204 (.pointer (some a)) "Push").run Try.prog w = .ok (270, .pointer (some a)) w := by kernel_rfl
theorem m_pop (n : Nat) (a : Addr) (w : World) : (method (n + 1) 204 (.pointer (some a)) "Pop").run Try.prog w = .ok (269, .pointer (some a)) w := by kernel_rfl
theorem recv_q {w : World} {a : Addr} {v : Value} (s : String) (h : w.cell? a = some v) : (receiverAt 204 (.val (.pointer (some a))) false (some s)).run Try.prog w = .ok v w := by
  have e : ∀ t, (Builtin.ssaWrapNilChk_ #[t] t #[.pointer (some a), strVal "", strVal s]).run Try.prog w = .ok (.pointer (some a)) w := fun _ => rfl
  unfold receiverAt
  simp [go_sem, Place.get, e, h]
theorem m_of {name : String} {f : FuncId} {w : World} {a : Addr} {v : Value} (hk : ((Try.prog.info? 204).bind (fun i => i.methods.find? (·.name == name))).map (fun m => (m.path.toList, m.path.isEmpty, m.func)) = some ([], true, some (f, false))) (h : w.cell? a = some v) (n : Nat) :
    (method (n + 1) 204 (.pointer (some a)) name).run Try.prog w = .ok (f, v) w := by
  cases hi : Try.prog.info? 204 with
  | none => rw [hi] at hk; cases hk
  | some i =>
    rw [hi] at hk
    cases hm : i.methods.find? (·.name == name) with
    | none => simp [hm] at hk
    | some m =>
      simp only [Option.bind_some, hm, Option.map_some, Option.some.injEq, Prod.mk.injEq] at hk
      obtain ⟨h1, h2, h3⟩ := hk
      have hr := fun s => recv_q (w := w) (a := a) (v := v) s h
      have hp : m.path = #[] := by apply Array.ext'; simpa using h1
      unfold method
      simp [typeInfo, hi, hm, hp, h3, follow, hr]
theorem m_len {w : World} {a : Addr} {v : Value} (h : w.cell? a = some v) (n : Nat) : (method (n + 1) 204 (.pointer (some a)) "Len").run Try.prog w = .ok (265, v) w := m_of (by kernel_rfl) h n
theorem m_less {w : World} {a : Addr} {v : Value} (h : w.cell? a = some v) (n : Nat) : (method (n + 1) 204 (.pointer (some a)) "Less").run Try.prog w = .ok (266, v) w := m_of (by kernel_rfl) h n
theorem m_swap {w : World} {a : Addr} {v : Value} (h : w.cell? a = some v) (n : Nat) : (method (n + 1) 204 (.pointer (some a)) "Swap").run Try.prog w = .ok (267, v) w := m_of (by kernel_rfl) h n
theorem m_any {m : Nat} {t : TypeId} {v : Value} {s : String} {w : World} {r : FuncId × Value} (h : ∀ n, (method (n + 1) t v s).run Try.prog w = .ok r w) (hm : 0 < m) : (method m t v s).run Try.prog w = .ok r w := by
  obtain ⟨n, rfl⟩ : ∃ n, m = n + 1 := ⟨m - 1, by omega⟩
  exact h n

end Go.Proofs.Ytbefoiikbbjjfaa.heapM

namespace Go.Proofs.Ytbefoiikbbjjfaa.heapW
open Go.ChangeShapes Go.WideShapes Go.ChangeAt Go.RowKit
open Go.ChangeMaps (open_string shut_string)
set_option linter.unusedVariables false
open Go Go.RowKit
open Go.Proofs.Ytbefoiikbbjjfaa.slc Go.Proofs.Ytbefoiikbbjjfaa.small Go.Proofs.Ytbefoiikbbjjfaa.opens Go.Proofs.Ytbefoiikbbjjfaa.heapN Go.Proofs.Ytbefoiikbbjjfaa.heapM

/-- The row of a queue's jobs. -/
def Qr (w : World) (base : Nat) (L : List Jb) (A : Option Addr) (c : Nat) : Prop := w.ownsRow base 146 2 (.slice A L.length c) L.length (lst (pcell L) (L.length * 2))
theorem Qr.at_ {w : World} {base : Nat} {L : List Jb} {A : Option Addr} {c : Nat} (h : Qr w base L A c) {i : Nat} (hi : i < L.length) :
    ∃ g, A = some ⟨g, 0, none⟩ ∧ w.cell? ⟨g, i * 2, none⟩ = some (.int .i64 (jg L i).1) ∧ w.cell? ⟨g, i * 2 + 1, none⟩ = some (.int .i64 (jg L i).2) := by
  obtain ⟨g, cap, hv, _, _⟩ := h.form (by omega)
  obtain ⟨rfl, rfl⟩ : A = some ⟨g, 0, none⟩ ∧ c = cap := by injection hv with a b c; exact ⟨a, c⟩
  refine ⟨g, rfl, ?_, ?_⟩
  · have h1 := h.cellAt (i * 2) (by omega)
    rw [lst_get _ _ _ (by omega)] at h1
    rw [h1]
    unfold pcell
    rw [if_pos (by omega), show i * 2 / 2 = i by omega]
    rfl
  · have h1 := h.cellAt (i * 2 + 1) (by omega)
    rw [lst_get _ _ _ (by omega)] at h1
    rw [h1]
    unfold pcell
    rw [if_neg (by omega), show (i * 2 + 1) / 2 = i by omega]
    rfl
theorem len_c (L : List Jb) (A : Option Addr) (c : Nat) (w : World) : Calls Try.prog 265 #[.slice A L.length c] w fun e w' => e = .returned (.int .i64 L.length) ∧ w = w' := by
  go_enter Try.func265, Try.ntmps265
  go_wp2
  go_ret
  exact ⟨rfl, rfl⟩
set_option maxHeartbeats 1600000 in
set_option maxRecDepth 100000 in
theorem less_c (base : Nat) (L : List Jb) (A : Option Addr) (c i j : Nat) (w : World) (h : Qr w base L A c) (hi : i < L.length) (hj : j < L.length) (hm : L.length ≤ 100) :
    Calls Try.prog 266 #[.slice A L.length c, .int .i64 i, .int .i64 j] w fun e w' => e = .returned (.bool (lts (jg L i) (jg L j))) ∧ w.grownBy w' none := by
  obtain ⟨g, rfl, a0, a1⟩ := h.at_ hi
  obtain ⟨g2, e2, b0, b1⟩ := h.at_ hj
  obtain rfl : g = g2 := by injection e2 with e2; injection e2
  have i0 : (0 : Int) ≤ (i : Int) := by omega
  have i1 : (i : Int) < (L.length : Int) := by omega
  have j0 : (0 : Int) ≤ (j : Int) := by omega
  have j1 : (j : Int) < (L.length : Int) := by omega
  clear e2 h
  unfold lts
  generalize jg L i = x at *
  generalize jg L j = y at *
  obtain ⟨x1, x2⟩ := x
  obtain ⟨y1, y2⟩ := y
  dsimp only at a0 a1 b0 b1 ⊢
  by_cases e : x1 = y1
  · subst e
    rw [if_pos rfl]
    go_enter Try.func266, Try.ntmps266
    go_wp2_with fail
    go_quiet (fail)
    go_wp2_with fail
    have a1' : (w.drewN nq).cell? ⟨g, i * 2 + 1, none⟩ = some (.int .i64 x2) := a1
    have b1' : (w.drewN nq).cell? ⟨g, j * 2 + 1, none⟩ = some (.int .i64 y2) := b1
    have gd := gb_drewN w nq none
    generalize w.drewN nq = wd at *
    go_quiet (fail)
    go_wp2_with fail
    go_ret
    exact ⟨rfl, gd.trans (gb_drewN _ _ _)⟩
  · rw [if_neg e]
    go_enter Try.func266, Try.ntmps266
    go_wp2_with fail
    go_quiet (fail)
    go_wp2_with fail
    have a1' : (w.drewN nq).cell? ⟨g, i * 2, none⟩ = some (.int .i64 x1) := a0
    have b1' : (w.drewN nq).cell? ⟨g, j * 2, none⟩ = some (.int .i64 y1) := b0
    have gd := gb_drewN w nq none
    generalize w.drewN nq = wd at *
    go_quiet (fail)
    go_wp2_with fail
    go_ret
    exact ⟨rfl, gd.trans (gb_drewN _ _ _)⟩
theorem pcell_swp {L : List Jb} {i j : Nat} (hi : i < L.length) (hj : j < L.length) :
    ((((lst (pcell L) (L.length * 2)).set (i * 2) (.int .i64 (jg L j).1)).set (i * 2 + 1) (.int .i64 (jg L j).2)).set (j * 2) (.int .i64 (jg L i).1)).set (j * 2 + 1) (.int .i64 (jg L i).2) = lst (pcell (swp L i j)) (L.length * 2) := by
  apply List.ext_getElem?
  intro k
  by_cases hk : k < L.length * 2
  · rw [lst_get _ _ _ hk]
    simp only [List.getElem?_set, List.length_set, lst_len, lst_get _ _ _ hk]
    have e : pcell (swp L i j) k = if k % 2 = 0 then .int .i64 (jg (swp L i j) (k / 2)).1 else .int .i64 (jg (swp L i j) (k / 2)).2 := rfl
    have e2 : pcell L k = if k % 2 = 0 then .int .i64 (jg L (k / 2)).1 else .int .i64 (jg L (k / 2)).2 := rfl
    rw [e, e2, swp_at hi hj]
    by_cases h1 : k / 2 = j
    · rw [if_pos h1]
      by_cases h2 : k % 2 = 0
      · rw [if_neg (by omega), if_pos (by omega), if_pos (by omega), if_pos h2]
      · rw [if_pos (by omega), if_pos (by omega), if_neg h2]
    · rw [if_neg h1, if_neg (by omega), if_neg (by omega)]
      by_cases h3 : k / 2 = i
      · rw [if_pos h3]
        by_cases h2 : k % 2 = 0
        · rw [if_neg (by omega), if_pos (by omega), if_pos (by omega), if_pos h2]
        · rw [if_pos (by omega), if_pos (by omega), if_neg h2]
      · rw [if_neg h3, if_neg (by omega), if_neg (by omega)]
  · rw [List.getElem?_eq_none (by simp [lst_len]; omega), List.getElem?_eq_none (by rw [lst_len]; omega)]
set_option maxHeartbeats 1600000 in
set_option maxRecDepth 100000 in
theorem swap_c (base : Nat) (L : List Jb) (A : Option Addr) (c i j : Nat) (w : World) (h : Qr w base L A c) (hi : i < L.length) (hj : j < L.length) (hm : L.length ≤ 100) :
    Calls Try.prog 267 #[.slice A L.length c, .int .i64 i, .int .i64 j] w fun e w' => e = .returned (.tuple #[]) ∧ Qr w' base (swp L i j) A c ∧ w.grownBy w' (A.map Addr.block) := by
  obtain ⟨g, rfl, a0, a1⟩ := h.at_ hi
  obtain ⟨g2, e2, b0, b1⟩ := h.at_ hj
  obtain rfl : g = g2 := by injection e2 with e2; injection e2
  have i0 : (0 : Int) ≤ (i : Int) := by omega
  have i1 : (i : Int) < (L.length : Int) := by omega
  have j0 : (0 : Int) ≤ (j : Int) := by omega
  have j1 : (j : Int) < (L.length : Int) := by omega
  clear e2
  obtain ⟨p1, q1⟩ := World.ownsRow.stored h (i * 2) (.int .i64 (jg L j).1)
  obtain ⟨p2, q2⟩ := p1.stored (i * 2 + 1) (.int .i64 (jg L j).2)
  obtain ⟨p3, q3⟩ := p2.stored (j * 2) (.int .i64 (jg L i).1)
  obtain ⟨p4, q4⟩ := p3.stored (j * 2 + 1) (.int .i64 (jg L i).2)
  rw [pcell_swp hi hj] at p4
  have p5 : Qr (((((w.setCell ⟨g, i * 2, none⟩ (.int .i64 (jg L j).1)).setCell ⟨g, i * 2 + 1, none⟩ (.int .i64 (jg L j).2)).setCell ⟨g, j * 2, none⟩ (.int .i64 (jg L i).1)).setCell ⟨g, j * 2 + 1, none⟩ (.int .i64 (jg L i).2)).drew) base (swp L i j) (some ⟨g, 0, none⟩) c := by
    unfold Qr
    rw [swp_len]
    exact own_kept0 p4 (gb_drewN _ 1 none)
  have HF := Lib.hid (And.intro p5 (((q1.trans q2).trans q3).trans (q4.trans (gb_drewN _ 1 (some g)))))
  have f0 := h.frozenAt (i * 2)
  have f1 := h.frozenAt (i * 2 + 1)
  have f2 := h.frozenAt (j * 2)
  have f3 := h.frozenAt (j * 2 + 1)
  clear h p5 p1 q1 p2 q2 p3 q3 p4 q4
  by_cases hij : i = j
  · subst hij
    generalize (jg L i).1 = x1 at *
    generalize (jg L i).2 = x2 at *
    go_enter Try.func267, Try.ntmps267
    go_wp2_with fail
    go_region
    refine bodyPost_end (results_none rfl _ _ _) rfl ?_
    exact ⟨rfl, HF.out.1, HF.out.2⟩
  · generalize (jg L i).1 = x1 at *
    generalize (jg L i).2 = x2 at *
    generalize (jg L j).1 = y1 at *
    generalize (jg L j).2 = y2 at *
    have n1 : ¬ i * 2 = j * 2 := by omega
    have n2 : ¬ j * 2 = i * 2 := by omega
    have n3 : ¬ i * 2 + 1 = j * 2 + 1 := by omega
    have n4 : ¬ j * 2 + 1 = i * 2 + 1 := by omega
    have n5 : ¬ j = i := by omega
    go_enter Try.func267, Try.ntmps267
    go_wp2_with fail
    go_region
    refine bodyPost_end (results_none rfl _ _ _) rfl ?_
    exact ⟨rfl, HF.out.1, HF.out.2⟩

end Go.Proofs.Ytbefoiikbbjjfaa.heapW

namespace Go.Proofs.Ytbefoiikbbjjfaa.heapU
open Go.ChangeShapes Go.WideShapes Go.ChangeAt Go.RowKit
open Go.ChangeMaps (open_string shut_string)
set_option linter.unusedVariables false
open Go Go.RowKit
open Go.Proofs.Ytbefoiikbbjjfaa.slc Go.Proofs.Ytbefoiikbbjjfaa.small Go.Proofs.Ytbefoiikbbjjfaa.opens Go.Proofs.Ytbefoiikbbjjfaa.heapN Go.Proofs.Ytbefoiikbbjjfaa.heapM Go.Proofs.Ytbefoiikbbjjfaa.heapW

/-- A queue in memory: its cell and its row. -/
structure Qu (w : World) (pb pf : Nat) (L : List Jb) (A : Option Addr) (c : Nat) : Prop where
  cell : w.cell? ⟨pb, pf, none⟩ = some (.slice A L.length c)
  ice : w.frozen? ⟨pb, pf, none⟩ = false
  row : Qr w (pb + 1) L A c
def qv (pb pf : Nat) : Value := .iface 204 (.pointer (some ⟨pb, pf, none⟩))
theorem ice_kept {w w' : World} {p : Addr} (h : w'.heap[p.block]? = w.heap[p.block]?) : w'.frozen? p = w.frozen? p := by simp [World.frozen?, h]
theorem ice_by {w w' : World} {b i : Nat} {row : Option Nat} (hg : w.grownBy w' row) (hb : b < w.heap.size) (hne : some b ≠ row) : w'.frozen? ⟨b, i, none⟩ = w.frozen? ⟨b, i, none⟩ := ice_kept (hg.block b hb hne)
theorem Qu.keep {w w' : World} {pb pf : Nat} {L : List Jb} {A : Option Addr} {c : Nat} (h : Qu w pb pf L A c) (hg : w.grownBy w' none) : Qu w' pb pf L A c :=
  ⟨hg.cell h.cell (by simp), (ice_by hg (World.block_lt_of_cell? w _ h.cell) (by simp)).trans h.ice, own_kept0 h.row hg⟩
theorem far_q {w : World} {pb : Nat} {L : List Jb} {A : Option Addr} {c : Nat} (h : Qr w (pb + 1) L A c) : some pb ≠ A.map Addr.block := fun e => by
  have := (own_base h pb e.symm).1
  omega
set_option maxHeartbeats 1600000 in
set_option maxRecDepth 100000 in
theorem up_c (pb pf n : Nat) (L : List Jb) (A : Option Addr) (c j : Nat) (w : World) (hc : w.cell? ⟨pb, pf, none⟩ = some (.slice A n c)) (hr : Qr w (pb + 1) L A c) (hn : L.length = n) (hj : j < n) (hm : n ≤ 100) :
    Calls Try.prog 207 #[qv pb pf, .int .i64 j] w fun e w' => e = .returned (.tuple #[]) ∧ Qr w' (pb + 1) (upF L j) A c ∧ w.grownBy w' (A.map Addr.block) := by
  unfold qv
  have HR := Lib.hid hr
  clear hr
  go_enter Try.func207, Try.ntmps207
  go_wp2_with fail
  go_loopw [1] (fun i wr => ∃ (k : Nat) (M : List Jb), k < n ∧ i = .int .i64 k ∧ M.length = n ∧ upF M k = upF L j ∧ Qr wr (pb + 1) M A c ∧ w.grownBy wr (A.map Addr.block)) (fun i _ => (intOf i).toNat)
  case atStart => exact ⟨j, L, hj, rfl, hn, rfl, HR.out, World.grownBy.refl _ _⟩
  case round =>
    obtain ⟨k, M, hk, rfl, hM, hup, hq, hg⟩ := hrel
    have hcw := hg.cell hc (far_q hq)
    by_cases hk0 : k = 0
    · subst hk0
      rw [up_zero] at hup
      have HQ := Lib.hid (And.intro hq hg)
      have HU := Lib.hid hup
      clear hq hg hup
      go_wp2_with fail
      refine bodyPost_end (results_none rfl _ _ _) rfl ?_
      rw [← HU.out]
      exact ⟨rfl, HQ.out.1, HQ.out.2⟩
    · obtain ⟨p, hp⟩ : ∃ p, (k - 1) / 2 = p := ⟨_, rfl⟩
      have hpk : p < k := by omega
      have e1 : ((k : Int) - 1) / 2 = (p : Int) := by omega
      have e2 : Int.tdiv ((k : Int) - 1) 2 = (p : Int) := by rw [Int.tdiv_eq_ediv_of_nonneg (by omega)]; exact e1
      have e3 : ¬ (p : Int) = (k : Int) := by omega
      have HL := less_c (pb + 1) M A c k p wr hq (by omega) (by omega) (by omega)
      rw [hM] at HL
      have ml := fun n => m_less (w := wr) hcw n
      have HLE := Lib.hid HL
      have HQ := Lib.hid (And.intro hq hg)
      have HU := Lib.hid hup
      clear hq hg hup HL
      go_wp2_with fail
      refine HLE.out.mono ?_
      rintro e w2 ⟨rfl, g2⟩
      have hq2 : Qr w2 (pb + 1) M A c := own_kept0 HQ.out.1 g2
      have hg2 := HQ.out.2.trans (gb_any g2 _)
      have hc2 := hg2.cell hc (far_q hq2)
      cases hl : lts (jg M k) (jg M p)
      · have HF := Lib.hid (show upF L j = M by rw [← HU.out, up_stop (by rw [hp]; exact hl)])
        clear hc2
        go_wp2_with fail
        refine bodyPost_end (results_none rfl _ _ _) rfl ?_
        rw [HF.out]
        exact ⟨rfl, hq2, hg2⟩
      · have HF := Lib.hid (show upF (swp M p k) p = upF L j by rw [← HU.out, up_go hk0 (by rw [hp]; exact hl), hp])
        have HS := swap_c (pb + 1) M A c p k w2 hq2 (by omega) (by omega) (by omega)
        rw [hM] at HS
        have HS := Lib.hid HS
        have ms := fun n => m_swap (w := w2) hc2 n
        have HG2 := Lib.hid hg2
        clear hq2 hg2 ml hcw g2
        go_wp2_with fail
        refine HS.out.mono ?_
        rintro e w3 ⟨rfl, hq3, g3⟩
        have HE := Lib.hid (And.intro hq3 (HG2.out.trans g3))
        clear hq3 g3 ms hc2
        go_wp2_with fail
        exact ⟨⟨p, swp M p k, by omega, rfl, by rw [swp_len]; exact hM, HF.out, HE.out.1, HE.out.2⟩, by simp [intOf]; omega⟩
set_option maxHeartbeats 3200000 in
set_option maxRecDepth 100000 in
theorem down_c (pb pf n N : Nat) (L : List Jb) (A : Option Addr) (c i0 : Nat) (w : World) (hc : w.cell? ⟨pb, pf, none⟩ = some (.slice A N c)) (hr : Qr w (pb + 1) L A c) (hn : L.length = N) (hnN : n ≤ N) (hi : i0 < N) (hm : N ≤ 100) :
    Calls Try.prog 208 #[qv pb pf, .int .i64 i0, .int .i64 n] w fun e w' => ∃ b : Bool, e = .returned (.bool b) ∧ Qr w' (pb + 1) (downF L i0 n) A c ∧ w.grownBy w' (A.map Addr.block) := by
  unfold qv
  have HR := Lib.hid hr
  clear hr
  go_enter Try.func208, Try.ntmps208
  go_wp2_with fail
  go_loopw [7] (fun i wr => ∃ (k : Nat) (M : List Jb), k < N ∧ i = .int .i64 k ∧ M.length = N ∧ downF M k n = downF L i0 n ∧ Qr wr (pb + 1) M A c ∧ w.grownBy wr (A.map Addr.block)) (fun i _ => N - (intOf i).toNat)
  case atStart => exact ⟨i0, L, hi, rfl, hn, rfl, HR.out, World.grownBy.refl _ _⟩
  case round =>
    obtain ⟨k, M, hk, rfl, hM, hup, hq, hg⟩ := hrel
    have hcw := hg.cell hc (far_q hq)
    obtain ⟨a, ha⟩ : ∃ a : Nat, 2 * k + 1 = a := ⟨_, rfl⟩
    obtain ⟨b, hb⟩ : ∃ b : Nat, a + 1 = b := ⟨_, rfl⟩
    have ea : 2 * (k : Int) + 1 = (a : Int) := by omega
    have eb : (a : Int) + 1 = (b : Int) := by omega
    have a0 : ¬ (a : Int) < 0 := by omega
    have HU := Lib.hid hup
    by_cases h1 : a < n
    · have h1' : ¬ (n : Int) ≤ (a : Int) := by omega
      have h1k : 2 * k + 1 < n := by omega
      have HL2 := Lib.hid (fun (J : Nat) (hJ : J < N) (w2 : World) (hq2 : Qr w2 (pb + 1) M A c) (hc2 : w2.cell? ⟨pb, pf, none⟩ = some (.slice A N c)) => show Calls Try.prog 266 #[.slice A N c, .int .i64 J, .int .i64 k] w2 fun e w' => e = .returned (.bool (lts (jg M J) (jg M k))) ∧ w2.grownBy w' none by
        have h := less_c (pb + 1) M A c J k w2 hq2 (by omega) (by omega) (by omega)
        rw [hM] at h
        exact h)
      clear hup
      by_cases h2 : b < n
      · have h2' : (b : Int) < (n : Int) := by omega
        have HL1 := less_c (pb + 1) M A c b a wr hq (by omega) (by omega) (by omega)
        rw [hM] at HL1
        have HL1 := Lib.hid HL1
        have ml := fun n => m_less (w := wr) hcw n
        have HQ := Lib.hid (And.intro hq hg)
        clear hq hg
        go_wp2_with fail
        refine HL1.out.mono ?_
        rintro e w2 ⟨rfl, g2⟩
        have hq2 : Qr w2 (pb + 1) M A c := own_kept0 HQ.out.1 g2
        have hg2 := HQ.out.2.trans (gb_any g2 _)
        have hc2 := hg2.cell hc (far_q hq2)
        have ml2 := fun n => m_less (w := w2) hc2 n
        clear ml hcw g2
        cases hl1 : lts (jg M b) (jg M a)
        · have hch : ch M k n = a := by unfold ch; rw [show 2 * k + 2 = b by omega, ha, hl1]; simp
          have HCH := Lib.hid hch
          clear hch
          go_wp2_with fail
          refine (HL2.out a (by omega) _ hq2 hc2).mono ?_
          rintro e w3 ⟨rfl, g3⟩
          have hq3 : Qr w3 (pb + 1) M A c := own_kept0 hq2 g3
          have hg3 := hg2.trans (gb_any g3 _)
          have hc3 := hg3.cell hc (far_q hq3)
          cases hl : lts (jg M a) (jg M k)
          · have HF := Lib.hid (show downF L i0 n = M by rw [← HU.out, down_stop (L := M) (i := k) (by rw [HCH.out]; exact hl)])
            clear hc3
            go_wp2_with fail
            go_ret
            rw [HF.out]
            exact ⟨_, rfl, hq3, hg3⟩
          · have HF := Lib.hid (show downF (swp M k a) a n = downF L i0 n by rw [← HU.out, down_go (L := M) (i := k) (by omega) (by rw [HCH.out]; exact hl), HCH.out])
            have HS := swap_c (pb + 1) M A c k a w3 hq3 (by omega) (by omega) (by omega)
            rw [hM] at HS
            have HS := Lib.hid HS
            have ms := fun n => m_swap (w := w3) hc3 n
            have HG3 := Lib.hid hg3
            clear hq3 hg3 g3
            go_wp2_with fail
            refine HS.out.mono ?_
            rintro e w4 ⟨rfl, hq4, g4⟩
            have HE := Lib.hid (And.intro hq4 (HG3.out.trans g4))
            clear hq4 g4 ms hc3
            go_wp2_with fail
            exact ⟨⟨a, swp M k a, by omega, rfl, by rw [swp_len]; exact hM, HF.out, HE.out.1, HE.out.2⟩, by simp [intOf]; omega⟩
        · have hch : ch M k n = b := by unfold ch; rw [show 2 * k + 2 = b by omega, ha, hl1, if_pos ⟨h2, rfl⟩]
          have HCH := Lib.hid hch
          clear hch
          go_wp2_with fail
          refine (HL2.out b (by omega) _ hq2 hc2).mono ?_
          rintro e w3 ⟨rfl, g3⟩
          have hq3 : Qr w3 (pb + 1) M A c := own_kept0 hq2 g3
          have hg3 := hg2.trans (gb_any g3 _)
          have hc3 := hg3.cell hc (far_q hq3)
          cases hl : lts (jg M b) (jg M k)
          · have HF := Lib.hid (show downF L i0 n = M by rw [← HU.out, down_stop (L := M) (i := k) (by rw [HCH.out]; exact hl)])
            clear hc3
            go_wp2_with fail
            go_ret
            rw [HF.out]
            exact ⟨_, rfl, hq3, hg3⟩
          · have HF := Lib.hid (show downF (swp M k b) b n = downF L i0 n by rw [← HU.out, down_go (L := M) (i := k) (by omega) (by rw [HCH.out]; exact hl), HCH.out])
            have HS := swap_c (pb + 1) M A c k b w3 hq3 (by omega) (by omega) (by omega)
            rw [hM] at HS
            have HS := Lib.hid HS
            have ms := fun n => m_swap (w := w3) hc3 n
            have HG3 := Lib.hid hg3
            clear hq3 hg3 g3
            go_wp2_with fail
            refine HS.out.mono ?_
            rintro e w4 ⟨rfl, hq4, g4⟩
            have HE := Lib.hid (And.intro hq4 (HG3.out.trans g4))
            clear hq4 g4 ms hc3
            go_wp2_with fail
            exact ⟨⟨b, swp M k b, by omega, rfl, by rw [swp_len]; exact hM, HF.out, HE.out.1, HE.out.2⟩, by simp [intOf]; omega⟩
      · have h2' : ¬ (b : Int) < (n : Int) := by omega
        have hch : ch M k n = a := by unfold ch; rw [if_neg (by omega)]; exact ha
        have HCH := Lib.hid hch
        have hq2 := hq
        have hg2 := hg
        have hc2 := hcw
        have ml2 := fun n => m_less (w := wr) hcw n
        clear hch hq hg hcw
        go_wp2_with fail
        refine (HL2.out a (by omega) _ hq2 hc2).mono ?_
        rintro e w3 ⟨rfl, g3⟩
        have hq3 : Qr w3 (pb + 1) M A c := own_kept0 hq2 g3
        have hg3 := hg2.trans (gb_any g3 _)
        have hc3 := hg3.cell hc (far_q hq3)
        cases hl : lts (jg M a) (jg M k)
        · have HF := Lib.hid (show downF L i0 n = M by rw [← HU.out, down_stop (L := M) (i := k) (by rw [HCH.out]; exact hl)])
          clear hc3
          go_wp2_with fail
          go_ret
          rw [HF.out]
          exact ⟨_, rfl, hq3, hg3⟩
        · have HF := Lib.hid (show downF (swp M k a) a n = downF L i0 n by rw [← HU.out, down_go (L := M) (i := k) (by omega) (by rw [HCH.out]; exact hl), HCH.out])
          have HS := swap_c (pb + 1) M A c k a w3 hq3 (by omega) (by omega) (by omega)
          rw [hM] at HS
          have HS := Lib.hid HS
          have ms := fun n => m_swap (w := w3) hc3 n
          have HG3 := Lib.hid hg3
          clear hq3 hg3 g3
          go_wp2_with fail
          refine HS.out.mono ?_
          rintro e w4 ⟨rfl, hq4, g4⟩
          have HE := Lib.hid (And.intro hq4 (HG3.out.trans g4))
          clear hq4 g4 ms hc3
          go_wp2_with fail
          exact ⟨⟨a, swp M k a, by omega, rfl, by rw [swp_len]; exact hM, HF.out, HE.out.1, HE.out.2⟩, by simp [intOf]; omega⟩
    · have h1' : (n : Int) ≤ (a : Int) := by omega
      have HF := Lib.hid (show downF L i0 n = M by rw [← hup, down_end (by omega)])
      have HQ := Lib.hid (And.intro hq hg)
      clear hup hq hg hcw
      go_wp2_with fail
      go_ret
      rw [HF.out]
      exact ⟨by by_cases h : i0 < k <;> simp [h], HQ.out.1, HQ.out.2⟩

end Go.Proofs.Ytbefoiikbbjjfaa.heapU

namespace Go.Proofs.Ytbefoiikbbjjfaa.heapP
open Go.ChangeShapes Go.WideShapes Go.ChangeAt Go.RowKit
open Go.ChangeMaps (open_string shut_string)
set_option linter.unusedVariables false
open Go Go.RowKit
open Go.Proofs.Ytbefoiikbbjjfaa.slc Go.Proofs.Ytbefoiikbbjjfaa.small Go.Proofs.Ytbefoiikbbjjfaa.opens Go.Proofs.Ytbefoiikbbjjfaa.heapN Go.Proofs.Ytbefoiikbbjjfaa.heapM Go.Proofs.Ytbefoiikbbjjfaa.heapW Go.Proofs.Ytbefoiikbbjjfaa.heapU

/-- What a change of one queue leaves as it was. -/
structure Tu (w w' : World) (pb pf : Nat) (A : Option Addr) : Prop where
  os : w'.os = w.os
  tape : w'.tape = w.tape
  output : w'.output = w.output
  size : w.heap.size ≤ w'.heap.size
  block : ∀ k, k < w.heap.size → k ≠ pb → some k ≠ A.map Addr.block → w'.heap[k]? = w.heap[k]?
  cell : ∀ i, i ≠ pf → w'.cell? ⟨pb, i, none⟩ = w.cell? ⟨pb, i, none⟩
  ice : ∀ i, w'.frozen? ⟨pb, i, none⟩ = w.frozen? ⟨pb, i, none⟩
theorem Tu.of {w w' : World} {pb pf : Nat} {A : Option Addr} (hg : w.grownBy w' (A.map Addr.block)) (hb : pb < w.heap.size) (hA : some pb ≠ A.map Addr.block) : Tu w w' pb pf A :=
  ⟨hg.os, hg.tape, hg.output, hg.size, fun k hk _ h => hg.block k hk h, fun i _ => World.cell?_of_block (hg.block pb hb hA), fun i => ice_by hg hb hA⟩
theorem Tu.trans {a b c : World} {pb pf : Nat} {A A' : Option Addr} (h : Tu a b pb pf A) (k : Tu b c pb pf A') (hA : A'.map Addr.block = A.map Addr.block ∨ ∃ g, A'.map Addr.block = some g ∧ a.heap.size ≤ g) : Tu a c pb pf A := by
  refine ⟨k.os.trans h.os, k.tape.trans h.tape, k.output.trans h.output, Nat.le_trans h.size k.size, fun i hi h1 h2 => ?_, fun i hi => (k.cell i hi).trans (h.cell i hi), fun i => (k.ice i).trans (h.ice i)⟩
  refine (k.block i (Nat.lt_of_lt_of_le hi h.size) h1 ?_).trans (h.block i hi h1 h2)
  rcases hA with e | ⟨g, e, hg⟩
  · rw [e]; exact h2
  · rw [e]; intro e2; injection e2 with e2; omega
theorem Tu.gb {w0 w w' : World} {pb pf : Nat} {A : Option Addr} (h : w0.grownBy w none) (k : Tu w w' pb pf A) (hp : w0.heap.size ≤ pb) (hA : ∀ g, A.map Addr.block = some g → w0.heap.size ≤ g) : w0.grownBy w' none :=
  ⟨k.os.trans h.os, k.tape.trans h.tape, k.output.trans h.output, Nat.le_trans h.size k.size, fun i hi _ => (k.block i (Nat.lt_of_lt_of_le hi h.size) (by omega) (fun e => by have := hA i e.symm; omega)).trans (h.block i hi (by simp))⟩
theorem Qu.lt {w : World} {pb pf : Nat} {L : List Jb} {A : Option Addr} {c : Nat} (h : heapU.Qu w pb pf L A c) : pb < w.heap.size := World.block_lt_of_cell? w _ h.cell
/-- Behind a store into the queue's cell. -/
theorem tu_cell {w : World} {pb pf : Nat} {v : Value} (A : Option Addr) (hp : pb < w.heap.size) : Tu w (w.setCell ⟨pb, pf, none⟩ v) pb pf A := by
  have hg : w.grownBy (w.setCell ⟨pb, pf, none⟩ v) (some pb) := ⟨rfl, rfl, rfl, (KeepsWalks.setCell w _ v).size, fun k _ hk => Below.heap_setCell _ _ _ k (fun e => hk (by rw [e]))⟩
  refine ⟨rfl, rfl, rfl, hg.size, fun k hk h1 _ => hg.block k hk (fun e => h1 (by injection e)), fun i hi => ?_, fun i => ?_⟩
  · exact World.cell?_setCell_other _ _ _ _ (by intro h; simp only [Addr.mk.injEq] at h; exact hi h.2.1.symm)
  · simp [World.frozen?_setCell]
theorem infoK : (Try.prog.info? 146).map (fun i => (i.zero, i.size, i.bytes)) = some (some (.agg #[.int .i64 0, .int .i64 0]), 2, 16) := by kernel_rfl
theorem app_q {w : World} {pb : Nat} {L : List Jb} {A : Option Addr} {c : Nat} (x : Jb) (h : Qr w (pb + 1) L A c) (hm : L.length < 100) (hb : pb < w.heap.size) :
    ∃ A' c' w', (nestG.appS #[142, 142] 142 #[.slice A L.length c, .slice (some ⟨w.heap.size, 0, none⟩) 1 1]).run Try.prog (w.alloc (.cells #[.int .i64 x.1, .int .i64 x.2] 146)).drew = .ok (.slice A' (L.length + 1) c') w' ∧
      Qr w' (pb + 1) (L ++ [x]) A' c' ∧ w.grownBy w' (A.map Addr.block) ∧ (A'.map Addr.block = A.map Addr.block ∨ ∃ g, A'.map Addr.block = some g ∧ w.heap.size ≤ g) := by
  obtain ⟨i0, hi0, hz0, hz1, hz2⟩ := info_parts infoK
  have g0 : w.grownBy (w.alloc (.cells #[.int .i64 x.1, .int .i64 x.2] 146)).drew none := (World.grownBy_alloc w (.cells #[.int .i64 x.1, .int .i64 x.2] 146) none).trans (gb_drewN _ 1 none)
  obtain ⟨v6, w6, hrun, r1, r2, _, r3⟩ := run_append_own_at (P := Try.prog) (w := (w.alloc (.cells #[.int .i64 x.1, .int .i64 x.2] 146)).drew) (pb + 1) 142 142 146 i0 (.agg #[.int .i64 0, .int .i64 0]) 2 16 Try.underlying142 hi0 hz0 hz1 hz2 rfl (by decide) _ _ _ (own_kept0 h g0) ⟨w.heap.size, 0, none⟩ 1 1 [.int .i64 x.1, .int .i64 x.2] rfl (World.news_of_block (cs := #[.int .i64 x.1, .int .i64 x.2]) (t := 146) (fr := (0, 0)) (heap_alloc_new w _)) (by intro u hu; simp at hu; rcases hu with rfl | rfl <;> rfl) (by unfold maxLen; omega) (by omega) (by have := g0.size; omega)
  obtain ⟨A6, c6, rfl⟩ := nestG.row_slice r1
  rw [own_blk] at r2
  rw [own_blk, own_blk] at r3
  refine ⟨A6, c6, w6, hrun, ?_, (gb_any g0 _).trans r2, ?_⟩
  · unfold Qr
    rw [listDir.pcell_snoc]
    simpa using r1
  · rcases r3 with r3 | r3
    · exact .inl r3
    · exact .inr ⟨_, r3, g0.size⟩
theorem as_k (v : Value) (w : World) : (Instr.typeAssert (.iface 146 v) 20 146 false).run Try.prog w = .ok v w := by kernel_rfl
section
attribute [local go_sem] as_k
attribute [local go_sem ↓] nestG.app_stop
set_option maxHeartbeats 1600000 in
set_option maxRecDepth 100000 in
theorem pushm_c (pb pf : Nat) (L : List Jb) (A : Option Addr) (c : Nat) (x : Jb) (w : World) (hq : heapU.Qu w pb pf L A c) (hm : L.length < 100) :
    Calls Try.prog 270 #[.pointer (some ⟨pb, pf, none⟩), .iface 146 (.agg #[.int .i64 x.1, .int .i64 x.2])] w fun e w' => e = .returned (.tuple #[]) ∧ ∃ A' c', heapU.Qu w' pb pf (L ++ [x]) A' c' ∧ Tu w w' pb pf A ∧ (A'.map Addr.block = A.map Addr.block ∨ ∃ g, A'.map Addr.block = some g ∧ w.heap.size ≤ g) := by
  obtain ⟨A', c', w6, hrun, hr, hg, hA⟩ := app_q x hq.row hm (Qu.lt hq)
  have hfar := far_q hq.row
  have hc := hq.cell
  have hc6 := hg.cell hc hfar
  have hi6 : w6.frozen? ⟨pb, pf, none⟩ = false := (ice_by hg (Qu.lt hq) hfar).trans hq.ice
  have hlt6 := Nat.lt_of_lt_of_le (Qu.lt hq) hg.size
  have hset : w6.grownBy (w6.setCell ⟨pb, pf, none⟩ (.slice A' (L.length + 1) c')) (some pb) := ⟨rfl, rfl, rfl, (KeepsWalks.setCell w6 _ _).size, fun k _ hk => Below.heap_setCell _ _ _ k (fun e => hk (by rw [e]))⟩
  have q6 : heapU.Qu (w6.setCell ⟨pb, pf, none⟩ (.slice A' (L.length + 1) c')) pb pf (L ++ [x]) A' c' := by
    refine ⟨?_, ?_, ?_⟩
    · rw [List.length_append, List.length_singleton]
      exact World.cell?_setCell_same _ _ _ hc6
    · rw [World.frozen?_setCell]; exact hi6
    · exact World.ownsRow.kept hr hset (.inr (fun e => far_q hr (by rw [own_blk] at e; exact e.symm)))
  have t6 : Tu w (w6.setCell ⟨pb, pf, none⟩ (.slice A' (L.length + 1) c')) pb pf A := (Tu.of hg (Qu.lt hq) hfar).trans (tu_cell A hlt6) (.inl rfl)
  have HF := Lib.hid (And.intro q6 (And.intro t6 hA))
  have hca := (World.grownBy_alloc w (.cells #[.int .i64 x.1, .int .i64 x.2] 146) none).cell hc (by simp)
  clear hq hr hg hA hfar hset q6 hlt6 t6
  go_enter Try.func270, Try.ntmps270
  go_wp2_with fail
  go_region
  all_goals
    refine bodyPost_end (results_none rfl _ _ _) rfl ?_
    exact ⟨rfl, A', c', HF.out.1, HF.out.2.1, HF.out.2.2⟩
/-- One job less at the end. -/
theorem row_cut2 {w : World} {b : Nat} {L : List Jb} {A : Option Addr} {c n : Nat} (h : Qr w b L A c) (hn : L.length = n + 1) : Qr w b (L.take n) A c := by
  have hl : (L.take n).length = n := by rw [List.length_take]; omega
  rcases h.2 with ⟨h1, _⟩ | ⟨g, cap, cur, h1, h2, h3, h4, h5, h6, h7⟩
  · injection h1 with _ h1 _; omega
  · injection h1 with h1 _ h8
    subst h1 h8
    unfold Qr
    rw [hl]
    have e : lst (pcell (L.take n)) (n * 2) = (lst (pcell L) (L.length * 2)).take (n * 2) := by
      apply List.ext_getElem?
      intro i
      rw [List.getElem?_take]
      by_cases hi : i < n * 2
      · rw [if_pos hi, lst_get _ _ _ hi, lst_get _ _ _ (by omega)]
        have e2 : (L.take n).getD (i / 2) (0, 0) = L.getD (i / 2) (0, 0) := by simp only [List.getD, List.getElem?_take, if_pos (show i / 2 < n by omega)]
        unfold pcell
        rw [e2]
      · rw [if_neg hi, List.getElem?_eq_none (by rw [lst_len]; omega)]
    refine ⟨by rw [lst_len], .inr ⟨g, c, cur, rfl, h2, h3, by omega, h5, h6, ?_⟩⟩
    rw [e, ← h7, List.take_take, show min (n * 2) (L.length * 2) = n * 2 by omega]
set_option maxHeartbeats 1600000 in
set_option maxRecDepth 100000 in
theorem popm_c (pb pf n : Nat) (L : List Jb) (A : Option Addr) (c : Nat) (w : World) (hq : heapU.Qu w pb pf L A c) (hn : L.length = n + 1) (hm : n < 100) :
    Calls Try.prog 269 #[.pointer (some ⟨pb, pf, none⟩)] w fun e w' => e = .returned (.iface 146 (.agg #[.int .i64 (jg L n).1, .int .i64 (jg L n).2])) ∧ heapU.Qu w' pb pf (L.take n) A c ∧ Tu w w' pb pf A := by
  obtain ⟨g, rfl, a0, a1⟩ := hq.row.at_ (show n < L.length by omega)
  have hcut := row_cut2 hq.row hn
  have hl : (L.take n).length = n := by rw [List.length_take]; omega
  have hc := hq.cell
  have hi := hq.ice
  have hcc := own_le hq.row
  rw [hn] at hc
  have ga := World.grownBy_alloc w (.cells #[.int .i64 (jg L n).1, .int .i64 (jg L n).2] 146) none
  have hca := ga.cell hc (by simp)
  have hia : (w.alloc (.cells #[.int .i64 (jg L n).1, .int .i64 (jg L n).2] 146)).frozen? ⟨pb, pf, none⟩ = false := (ice_by ga (Qu.lt hq) (by simp)).trans hi
  obtain ⟨x0, x1⟩ := boxed2 (World.grownBy.refl (w.alloc (.cells #[.int .i64 (jg L n).1, .int .i64 (jg L n).2] 146)) none)
  have hlt := Qu.lt hq
  have hlta := Nat.lt_of_lt_of_le hlt ga.size
  have hset : (w.alloc (.cells #[.int .i64 (jg L n).1, .int .i64 (jg L n).2] 146)).grownBy ((w.alloc (.cells #[.int .i64 (jg L n).1, .int .i64 (jg L n).2] 146)).setCell ⟨pb, pf, none⟩ (.slice (some ⟨g, 0, none⟩) n c)) (some pb) := ⟨rfl, rfl, rfl, (KeepsWalks.setCell _ _ _).size, fun k _ hk => Below.heap_setCell _ _ _ k (fun e => hk (by rw [e]))⟩
  have q6 : heapU.Qu ((w.alloc (.cells #[.int .i64 (jg L n).1, .int .i64 (jg L n).2] 146)).setCell ⟨pb, pf, none⟩ (.slice (some ⟨g, 0, none⟩) n c)) pb pf (L.take n) (some ⟨g, 0, none⟩) c := by
    refine ⟨?_, ?_, ?_⟩
    · rw [hl]
      exact World.cell?_setCell_same _ _ _ hca
    · rw [World.frozen?_setCell]; exact hia
    · exact World.ownsRow.kept (own_kept0 hcut ga) hset (.inr (fun e => far_q hq.row (by rw [own_blk] at e; exact e.symm)))
  have t6 : Tu w ((w.alloc (.cells #[.int .i64 (jg L n).1, .int .i64 (jg L n).2] 146)).setCell ⟨pb, pf, none⟩ (.slice (some ⟨g, 0, none⟩) n c)) pb pf (some ⟨g, 0, none⟩) := (Tu.of (gb_any ga _) hlt (far_q hq.row)).trans (tu_cell _ hlta) (.inl rfl)
  have hne : ¬ pb = w.heap.size := by omega
  have n0 : (0 : Int) ≤ (n : Int) := by omega
  have n1 : (n : Int) < ((n + 1 : Nat) : Int) := by omega
  have n2 : ((n + 1 : Nat) : Int) - 1 = (n : Int) := by omega
  have n3 : (n : Int) ≤ (c : Int) := by omega
  have n4 : n ≤ c := by omega
  have HF := Lib.hid (And.intro q6 t6)
  clear hq hcut hset q6 t6 ga hlta hlt
  generalize jg L n = x at *
  generalize hN : n + 1 = N at *
  go_enter Try.func269, Try.ntmps269
  go_wp2_with fail
  go_ret
  exact ⟨rfl, HF.out.1, HF.out.2⟩
end
theorem qu_up {w w' : World} {pb pf : Nat} {L M : List Jb} {A : Option Addr} {c : Nat} (h : heapU.Qu w pb pf L A c) (hr : Qr w' (pb + 1) M A c) (hl : M.length = L.length) (hg : w.grownBy w' (A.map Addr.block)) : heapU.Qu w' pb pf M A c :=
  ⟨by rw [hl]; exact hg.cell h.cell (far_q h.row), (ice_by hg (Qu.lt h) (far_q h.row)).trans h.ice, hr⟩
set_option maxHeartbeats 1600000 in
set_option maxRecDepth 100000 in
theorem push_c (pb pf : Nat) (L : List Jb) (A : Option Addr) (c : Nat) (x : Jb) (w : World) (hq : heapU.Qu w pb pf L A c) (hm : L.length < 99) :
    Calls Try.prog 170 #[qv pb pf, .iface 146 (.agg #[.int .i64 x.1, .int .i64 x.2])] w fun e w' => e = .returned (.tuple #[]) ∧ ∃ A' c', heapU.Qu w' pb pf (upF (L ++ [x]) L.length) A' c' ∧ Tu w w' pb pf A ∧ (A'.map Addr.block = A.map Addr.block ∨ ∃ g, A'.map Addr.block = some g ∧ w.heap.size ≤ g) := by
  have HP := Lib.hid (pushm_c pb pf L A c x w hq (by omega))
  have mp := fun n => m_push n ⟨pb, pf, none⟩ w
  clear hq
  unfold qv
  go_enter Try.func170, Try.ntmps170
  go_wp2_with fail
  refine HP.out.mono ?_
  rintro e w1 ⟨rfl, A', c', q1, t1, hA⟩
  have hl : (L ++ [x]).length = L.length + 1 := by simp
  have hc1 := q1.cell
  have HL := len_c (L ++ [x]) A' c' w1
  have HU := up_c pb pf (L.length + 1) (L ++ [x]) A' c' L.length w1 (by rw [← hl]; exact hc1) q1.row hl (by omega) (by omega)
  rw [hl] at hc1 HL
  have HL := Lib.hid HL
  have HU := Lib.hid HU
  have ml := fun n => m_len (w := w1) hc1 n
  have n2 : ((L.length + 1 : Nat) : Int) - 1 = (L.length : Int) := by omega
  have HQ := Lib.hid (And.intro q1 (And.intro t1 hA))
  clear q1 t1 hA mp HP
  generalize hN : L.length + 1 = N at *
  unfold qv at HU
  go_wp2_with fail
  refine HL.out.mono ?_
  rintro e w' ⟨rfl, rfl⟩
  go_wp2_with fail
  refine HU.out.mono ?_
  rintro e w2 ⟨rfl, r2, g2⟩
  obtain ⟨q1, t1, hA⟩ := HQ.out
  have q2 := qu_up q1 r2 (up_len _ _) g2
  have t2 := t1.trans (Tu.of g2 (Qu.lt q1) (far_q q1.row)) hA
  have HF := Lib.hid (And.intro q2 (And.intro t2 hA))
  clear q1 t1 hA q2 t2 r2 g2
  go_wp2_with fail
  refine bodyPost_end (results_none rfl _ _ _) rfl ?_
  exact ⟨rfl, A', c', HF.out.1, HF.out.2.1, HF.out.2.2⟩
set_option maxHeartbeats 1600000 in
set_option maxRecDepth 100000 in
theorem pop_c (pb pf : Nat) (L : List Jb) (A : Option Addr) (c : Nat) (w : World) (hq : heapU.Qu w pb pf L A c) (h0 : 0 < L.length) (hm : L.length ≤ 100) (hs : Sm L) (hh : Hp L L.length) :
    Calls Try.prog 171 #[qv pb pf] w fun e w' => e = .returned (.iface 146 (.agg #[.int .i64 (jg L 0).1, .int .i64 (jg L 0).2])) ∧ heapU.Qu w' pb pf (popF L) A c ∧ Tu w w' pb pf A := by
  obtain ⟨pj, _, _, _⟩ := pop_all h0 hs hh
  obtain ⟨n, hn⟩ : ∃ n, L.length = n + 1 := ⟨L.length - 1, by omega⟩
  have hpf : popF L = (downF (swp L 0 n) 0 n).take n := by unfold popF; rw [show L.length - 1 = n by omega]
  rw [show L.length - 1 = n by omega] at pj
  have hc := hq.cell
  have HL := len_c L A c w
  have HS := swap_c (pb + 1) L A c 0 n w hq.row h0 (by omega) hm
  rw [hn] at hc HL HS
  have HL := Lib.hid HL
  have HS := Lib.hid HS
  have ml := fun n => m_len (w := w) hc n
  have ms := fun n => m_swap (w := w) hc n
  have n2 : ((n + 1 : Nat) : Int) - 1 = (n : Int) := by omega
  have HQ := Lib.hid hq
  have HPJ := Lib.hid (And.intro pj hpf)
  clear hq pj hpf hs hh
  generalize hN : n + 1 = N at *
  rw [show ((0 : Nat) : Int) = 0 from rfl] at HS
  unfold qv
  go_enter Try.func171, Try.ntmps171
  go_wp2_with fail
  refine HL.out.mono ?_
  rintro e w' ⟨rfl, rfl⟩
  clear ml
  go_wp2_with fail
  refine HS.out.mono ?_
  rintro e w1 ⟨rfl, r1, g1⟩
  have q1 := qu_up HQ.out r1 (swp_len _ _ _) g1
  have t1 : Tu w w1 pb pf A := Tu.of g1 (Qu.lt HQ.out) (far_q HQ.out.row)
  have hc1 := q1.cell
  rw [swp_len, hn] at hc1
  have HD := down_c pb pf n N (swp L 0 n) A c 0 w1 hc1 q1.row (by rw [swp_len, hn]) (by omega) (by omega) (by omega)
  rw [show ((0 : Nat) : Int) = 0 from rfl] at HD
  unfold qv at HD
  have HD := Lib.hid HD
  have HQ1 := Lib.hid (And.intro q1 t1)
  clear r1 g1 q1 t1 ms HQ HS hc1
  go_wp2_with fail
  refine HD.out.mono ?_
  rintro e w2 ⟨b, rfl, r2, g2⟩
  have hdl : (downF (swp L 0 n) 0 n).length = (swp L 0 n).length := down_len n 0 _ _ (by omega)
  have q2 := qu_up HQ1.out.1 r2 hdl g2
  have t2 := HQ1.out.2.trans (Tu.of g2 (Qu.lt HQ1.out.1) (far_q HQ1.out.1.row)) (.inl rfl)
  have HP := popm_c pb pf n (downF (swp L 0 n) 0 n) A c w2 q2 (by rw [hdl, swp_len, hn, hN]) (by omega)
  rw [HPJ.out.1] at HP
  have HP := Lib.hid HP
  have mp := fun n => m_pop n ⟨pb, pf, none⟩ w2
  have HT := Lib.hid t2
  clear r2 g2 q2 t2 hdl HQ1 HD
  go_wp2_with fail
  refine HP.out.mono ?_
  rintro e w3 ⟨rfl, q3, t3⟩
  rw [← HPJ.out.2] at q3
  have HF := Lib.hid (And.intro q3 (HT.out.trans t3 (.inl rfl)))
  clear q3 t3
  go_wp2_with fail
  go_ret
  exact ⟨rfl, HF.out.1, HF.out.2⟩

end Go.Proofs.Ytbefoiikbbjjfaa.heapP
