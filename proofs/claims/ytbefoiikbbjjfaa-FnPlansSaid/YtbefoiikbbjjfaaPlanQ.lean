/- What the two queues of jobs hold. -/
import Derived.Test.YtbefoiikbbjjfaaRows
import Derived.Test.YtbefoiikbbjjfaaSlc
import Derived.Test.YtbefoiikbbjjfaaSmall
import Derived.Test.YtbefoiikbbjjfaaPlanNum
import Derived.Test.YtbefoiikbbjjfaaHeapAll
import Derived.Test.YtbefoiikbbjjfaaPlanP
import Derived.WalkKit
import Derived.ProofKit
import Derived.OpenShut
import Derived.ShutString
import Derived.ChangeOld
import Derived.Below
import Derived.Lib.Hide
import Derived.BigQuiet
import Derived.Deep.QuietTactic
import Derived.WalkLawsBesides
import Derived.Outline
namespace Go.Proofs.Ytbefoiikbbjjfaa.planQ
open Go.ChangeShapes Go.WideShapes Go.ChangeAt Go.RowKit
open Go.ChangeMaps (open_string shut_string)
set_option linter.unusedVariables false
open Go Go.RowKit
open Go.Proofs.Ytbefoiikbbjjfaa.slc Go.Proofs.Ytbefoiikbbjjfaa.small Go.Proofs.Ytbefoiikbbjjfaa.planNum Go.Proofs.Ytbefoiikbbjjfaa.heapN Go.Proofs.Ytbefoiikbbjjfaa.planP

structure QS (bs : List Bm) (nx : Nat → Nat) (inD : Nat → Bool) (C D : List Jb) : Prop where
  n8 : bs.length ≤ 7
  len : C.length + D.length = bs.length
  cn : C.Nodup
  dn : D.Nodup
  cm : ∀ x, x ∈ C ↔ ∃ i, i < bs.length ∧ inD i = false ∧ x = (com bs nx i, (i : Int))
  dm : ∀ x, x ∈ D ↔ ∃ i, i < bs.length ∧ inD i = true ∧ x = (com bs nx i + ev bs i, (i : Int))
  ch : Hp C C.length
  dh : Hp D D.length
section
variable {bs : List Bm} {nx : Nat → Nat} {inD : Nat → Bool} {C D : List Jb}
theorem QS.cs (h : QS bs nx inD C D) : Sm C := fun x hx => by
  obtain ⟨i, hi, _, rfl⟩ := (h.cm x).1 hx
  have := h.n8
  show 0 ≤ (i : Int) ∧ (i : Int) < 8
  omega
theorem QS.ds (h : QS bs nx inD C D) : Sm D := fun x hx => by
  obtain ⟨i, hi, _, rfl⟩ := (h.dm x).1 hx
  have := h.n8
  show 0 ≤ (i : Int) ∧ (i : Int) < 8
  omega
theorem pop_mem {L : List Jb} (hn : L.Nodup) (hp : L.Perm (jg L 0 :: popF L)) : (popF L).Nodup ∧ ∀ y, y ∈ popF L ↔ y ∈ L ∧ y ≠ jg L 0 := by
  have h2 := hp.nodup_iff.1 hn
  rw [List.nodup_cons] at h2
  refine ⟨h2.2, fun y => ⟨fun hy => ⟨hp.mem_iff.2 (List.mem_cons_of_mem _ hy), fun e => h2.1 (e ▸ hy)⟩, fun ⟨hy, hne⟩ => ?_⟩⟩
  rcases List.mem_cons.1 (hp.mem_iff.1 hy) with e | e
  · exact absurd e hne
  · exact e
/-- The first of those that are to come. -/
theorem QS.head (h : QS bs nx inD C D) (h0 : 0 < C.length) : ∃ i, i < bs.length ∧ inD i = false ∧ jg C 0 = (com bs nx i, (i : Int)) ∧ ∀ k, k < bs.length → inD k = false → com bs nx i ≤ com bs nx k := by
  obtain ⟨i, hi, hd, e⟩ := (h.cm _).1 (jg_mem h0)
  refine ⟨i, hi, hd, e, fun k hk hkd => ?_⟩
  obtain ⟨q, hq, eq⟩ := List.getElem_of_mem ((h.cm _).2 ⟨k, hk, hkd, rfl⟩)
  have h1 := h.ch.root q hq
  have e2 : jg C q = (com bs nx k, (k : Int)) := by rw [← eq]; simp [jg, List.getD, hq]
  unfold ky key at h1
  rw [e, e2] at h1
  have := h.n8
  dsimp only at h1
  omega
theorem QS.admit (h : QS bs nx inD C D) (h0 : 0 < C.length) {i : Nat} (hi : i < bs.length) (hd : inD i = false) (e : jg C 0 = (com bs nx i, (i : Int))) :
    QS bs nx (fun k => if k = i then true else inD k) (popF C) (upF (D ++ [(com bs nx i + ev bs i, (i : Int))]) D.length) := by
  obtain ⟨_, hp, hh, hl⟩ := pop_all h0 h.cs h.ch
  obtain ⟨hn, hm⟩ := pop_mem h.cn hp
  have h8 := h.n8
  obtain ⟨hp2, hh2⟩ := push_all h.ds (x := (com bs nx i + ev bs i, (i : Int))) (by show 0 ≤ (i : Int) ∧ (i : Int) < 8; omega) h.dh
  have hl2 : (upF (D ++ [(com bs nx i + ev bs i, (i : Int))]) D.length).length = D.length + 1 := by rw [up_len]; simp
  have hnot : (com bs nx i + ev bs i, (i : Int)) ∉ D := fun hx => by
    obtain ⟨k, _, hk2, ek⟩ := (h.dm _).1 hx
    have : i = k := by have := congrArg Prod.snd ek; dsimp only at this; omega
    subst this
    rw [hd] at hk2
    cases hk2
  refine ⟨h8, by have := h.len; omega, hn, hp2.nodup_iff.2 (List.nodup_cons.2 ⟨hnot, h.dn⟩), fun y => ?_, fun y => ?_, by rw [hl]; exact hh, by rw [hl2]; exact hh2⟩
  · rw [hm, h.cm, e]
    constructor
    · rintro ⟨⟨k, hk, hkd, rfl⟩, hne⟩
      have : k ≠ i := fun e => hne (by rw [e])
      exact ⟨k, hk, by rw [if_neg this]; exact hkd, rfl⟩
    · rintro ⟨k, hk, hkd, rfl⟩
      by_cases ek : k = i
      · rw [if_pos ek] at hkd; cases hkd
      · rw [if_neg ek] at hkd
        exact ⟨⟨k, hk, hkd, rfl⟩, fun e2 => ek (by have := congrArg Prod.snd e2; dsimp only at this; omega)⟩
  · rw [hp2.mem_iff, List.mem_cons, h.dm]
    constructor
    · rintro (rfl | ⟨k, hk, hkd, rfl⟩)
      · exact ⟨i, hi, by rw [if_pos rfl], rfl⟩
      · exact ⟨k, hk, by split <;> first | rfl | exact hkd, rfl⟩
    · rintro ⟨k, hk, hkd, rfl⟩
      by_cases ek : k = i
      · subst ek; exact .inl rfl
      · rw [if_neg ek] at hkd
        exact .inr ⟨k, hk, hkd, rfl⟩
/-- The first of those that are due. -/
theorem QS.due (h : QS bs nx inD C D) (h0 : 0 < D.length) : ∃ i, i < bs.length ∧ inD i = true ∧ jg D 0 = (com bs nx i + ev bs i, (i : Int)) ∧ ∀ k, k < bs.length → inD k = true → (com bs nx i + ev bs i) * 8 + i ≤ (com bs nx k + ev bs k) * 8 + k := by
  obtain ⟨i, hi, hd, e⟩ := (h.dm _).1 (jg_mem h0)
  refine ⟨i, hi, hd, e, fun k hk hkd => ?_⟩
  obtain ⟨q, hq, eq⟩ := List.getElem_of_mem ((h.dm _).2 ⟨k, hk, hkd, rfl⟩)
  have h1 := h.dh.root q hq
  have e2 : jg D q = (com bs nx k + ev bs k, (k : Int)) := by rw [← eq]; simp [jg, List.getD, hq]
  unfold ky key at h1
  rw [e, e2] at h1
  exact h1
theorem QS.take (h : QS bs nx inD C D) (h0 : 0 < D.length) {i : Nat} (hi : i < bs.length) (hd : inD i = true) (e : jg D 0 = (com bs nx i + ev bs i, (i : Int))) :
    QS bs (upd nx i) (fun k => if k = i then false else inD k) (upF (C ++ [(com bs nx i + ev bs i, (i : Int))]) C.length) (popF D) := by
  obtain ⟨_, hp, hh, hl⟩ := pop_all h0 h.ds h.dh
  obtain ⟨hn, hm⟩ := pop_mem h.dn hp
  have h8 := h.n8
  obtain ⟨hp2, hh2⟩ := push_all h.cs (x := (com bs nx i + ev bs i, (i : Int))) (by show 0 ≤ (i : Int) ∧ (i : Int) < 8; omega) h.ch
  have hl2 : (upF (C ++ [(com bs nx i + ev bs i, (i : Int))]) C.length).length = C.length + 1 := by rw [up_len]; simp
  have hci : com bs (upd nx i) i = com bs nx i + ev bs i := by
    unfold com upd
    rw [if_pos rfl, show ((nx i + 1 : Nat) : Int) = (nx i : Int) + 1 by simp, Int.add_mul, Int.one_mul]
  have hck : ∀ k, k ≠ i → com bs (upd nx i) k = com bs nx k := fun k hk => by unfold com upd; rw [if_neg hk]
  have hnot : (com bs nx i + ev bs i, (i : Int)) ∉ C := fun hx => by
    obtain ⟨k, _, hk2, ek⟩ := (h.cm _).1 hx
    have : i = k := by have := congrArg Prod.snd ek; dsimp only at this; omega
    subst this
    rw [hd] at hk2
    cases hk2
  refine ⟨h8, by have := h.len; omega, hp2.nodup_iff.2 (List.nodup_cons.2 ⟨hnot, h.cn⟩), hn, fun y => ?_, fun y => ?_, by rw [hl2]; exact hh2, by rw [hl]; exact hh⟩
  · rw [hp2.mem_iff, List.mem_cons, h.cm]
    constructor
    · rintro (rfl | ⟨k, hk, hkd, rfl⟩)
      · exact ⟨i, hi, by rw [if_pos rfl], by rw [hci]⟩
      · have : k ≠ i := fun e => by rw [e, hd] at hkd; cases hkd
        exact ⟨k, hk, by rw [if_neg this]; exact hkd, by rw [hck k this]⟩
    · rintro ⟨k, hk, hkd, rfl⟩
      by_cases ek : k = i
      · subst ek; exact .inl (by rw [hci])
      · rw [if_neg ek] at hkd
        exact .inr ⟨k, hk, hkd, by rw [hck k ek]⟩
  · rw [hm, h.dm, e]
    constructor
    · rintro ⟨⟨k, hk, hkd, rfl⟩, hne⟩
      have : k ≠ i := fun e => hne (by rw [e])
      exact ⟨k, hk, by rw [if_neg this]; exact hkd, by rw [hck k this]⟩
    · rintro ⟨k, hk, hkd, rfl⟩
      by_cases ek : k = i
      · rw [if_pos ek] at hkd; cases hkd
      · rw [if_neg ek] at hkd
        exact ⟨⟨k, hk, hkd, by rw [hck k ek]⟩, fun e2 => ek (by have := congrArg Prod.snd e2; dsimp only at this; omega)⟩
/-- A job has been admitted just when it has come. -/
def Adm (bs : List Bm) (nx : Nat → Nat) (ck : Int) (inD : Nat → Bool) : Prop := ∀ k, k < bs.length → inD k = decide (com bs nx k ≤ ck)
theorem QS.best (h : QS bs nx inD C D) {ck : Int} (ha : Adm bs nx ck inD) (h0 : 0 < D.length) {i : Nat} (hi : i < bs.length) (hd : inD i = true) (hm : ∀ k, k < bs.length → inD k = true → (com bs nx i + ev bs i) * 8 + i ≤ (com bs nx k + ev bs k) * 8 + k) : bst bs nx ck bs.length = some i := by
  have hci : com bs nx i ≤ ck := by rw [ha i hi] at hd; exact of_decide_eq_true hd
  cases hb : bst bs nx ck bs.length with
  | none => have := bst_none hb i hi; omega
  | some b =>
    obtain ⟨b1, b2, b3, b4⟩ := bst_some hb
    have h1 := hm b b1 (by rw [ha b b1]; exact decide_eq_true b2)
    have h2 := b3 i hi hci
    have h8 := h.n8
    by_cases e : i < b
    · have := b4 i e hci; omega
    · have : i = b := by omega
      rw [this]
theorem QS.none_ (h : QS bs nx inD C D) {ck : Int} (ha : Adm bs nx ck inD) (h0 : D.length = 0) : bst bs nx ck bs.length = none := by
  cases hb : bst bs nx ck bs.length with
  | none => rfl
  | some b =>
    obtain ⟨b1, b2, _, _⟩ := bst_some hb
    have hx := (h.dm _).2 ⟨b, b1, by rw [ha b b1]; exact decide_eq_true b2, rfl⟩
    rw [List.eq_nil_of_length_eq_zero h0] at hx
    cases hx
/-- The first that comes when none has. -/
theorem QS.first (h : QS bs nx inD C D) (h0 : D.length = 0) (hb : 0 < bs.length) : (jg C 0).1 = soon bs nx bs.length := by
  have hc : 0 < C.length := by have := h.len; omega
  obtain ⟨i, hi, hd, e, hm⟩ := h.head hc
  obtain ⟨a, j, hj, ej⟩ := soon_le bs nx bs.length hb
  have hjd : inD j = false := by
    cases hjd : inD j with
    | false => rfl
    | true =>
      have hx := (h.dm _).2 ⟨j, hj, hjd, rfl⟩
      rw [List.eq_nil_of_length_eq_zero h0] at hx
      cases hx
  have h1 := hm j hj hjd
  have h2 := a i hi
  rw [e]
  show com bs nx i = _
  omega
end

end Go.Proofs.Ytbefoiikbbjjfaa.planQ
