/- Lists of beams in a law: compared, copied, marked. -/
import Derived.Test.YtbefoiikbbjjfaaRows
import Derived.Test.YtbefoiikbbjjfaaSlc
import Derived.Test.YtbefoiikbbjjfaaSmall
import Derived.Test.YtbefoiikbbjjfaaOpens
import Derived.Test.YtbefoiikbbjjfaaBeams
import Derived.WalkKit
import Derived.ProofKit
import Derived.OpenShut
import Derived.ShutString
import Derived.ChangeOld
import Derived.Below
import Derived.Lib.Hide
import Derived.BigQuiet
import Derived.Deep.QuietTactic
import Derived.WalkLawsBesides
import Derived.Outline
import Derived.Deep.QuietTactic
import Derived.BigQuiet
import Derived.Deep.LoopGhost
import Derived.StillTailTactics
namespace Go.Proofs.Ytbefoiikbbjjfaa.listBeam
open Go.ChangeShapes Go.WideShapes Go.ChangeAt Go.RowKit
open Go.ChangeMaps (open_string shut_string)
set_option linter.unusedVariables false
open Go Go.RowKit
open Go.Proofs.Ytbefoiikbbjjfaa.slc Go.Proofs.Ytbefoiikbbjjfaa.small Go.Proofs.Ytbefoiikbbjjfaa.opens Go.Proofs.Ytbefoiikbbjjfaa.beams

theorem infoB : (Try.prog.info? 66).map (fun i => (i.zero, i.size, i.bytes)) = some (some (.agg #[.int .i64 0, .int .i64 0, .int .i64 0, .int .i64 0]), 4, 32) := by kernel_rfl

theorem eq_dir : True := trivial

theorem blocks3 {w w1 : World} {a b c : Obj} (hg : (((w.alloc a).alloc b).alloc c).grownBy w1 none) : w1.heap[w.heap.size]? = some a ∧ w1.heap[w.heap.size + 1]? = some b ∧ w1.heap[w.heap.size + 1 + 1]? = some c := by
  have e1 : (w.alloc a).heap.size = w.heap.size + 1 := by simp
  have e2 : ((w.alloc a).alloc b).heap.size = w.heap.size + 1 + 1 := by simp
  have g2 := (World.grownBy_alloc ((w.alloc a).alloc b) c none).trans hg
  have g1 := (World.grownBy_alloc (w.alloc a) b none).trans g2
  refine ⟨(g1.block _ (by simp) (by simp)).trans (heap_alloc_new w _), ?_, ?_⟩
  · have := (g2.block (w.alloc a).heap.size (by simp) (by simp)).trans (heap_alloc_new (w.alloc a) b)
    rwa [e1] at this
  · have := (hg.block ((w.alloc a).alloc b).heap.size (by simp) (by simp)).trans (heap_alloc_new ((w.alloc a).alloc b) c)
    rwa [e2] at this
theorem block1 {w w1 : World} {a : Obj} (hg : (w.alloc a).grownBy w1 none) : w1.heap[w.heap.size]? = some a := (hg.block _ (by simp) (by simp)).trans (heap_alloc_new w _)
theorem blocks2 {w w1 : World} {a b : Obj} (hg : ((w.alloc a).alloc b).grownBy w1 none) : w1.heap[w.heap.size]? = some a ∧ w1.heap[w.heap.size + 1]? = some b := by
  have e1 : (w.alloc a).heap.size = w.heap.size + 1 := by simp
  have g1 := (World.grownBy_alloc (w.alloc a) b none).trans hg
  refine ⟨(g1.block _ (by simp) (by simp)).trans (heap_alloc_new w _), ?_⟩
  have := (hg.block (w.alloc a).heap.size (by simp) (by simp)).trans (heap_alloc_new (w.alloc a) b)
  rwa [e1] at this
theorem cells4 {w : World} {g : Nat} {x y u v : Value} {t : TypeId} (h : w.heap[g]? = some (.cells #[x, y, u, v] t)) :
    (w.cell? ⟨g, 0, none⟩ = some x ∧ w.cell? ⟨g, 1, none⟩ = some y ∧ w.cell? ⟨g, 2, none⟩ = some u ∧ w.cell? ⟨g, 3, none⟩ = some v) ∧ w.frozen? ⟨g, 0, none⟩ = false ∧ w.frozen? ⟨g, 1, none⟩ = false ∧ w.frozen? ⟨g, 2, none⟩ = false ∧ w.frozen? ⟨g, 3, none⟩ = false :=
  ⟨⟨cell_of_row w _ 0 _ _ _ h, cell_of_row w _ 1 _ _ _ h, cell_of_row w _ 2 _ _ _ h, cell_of_row w _ 3 _ _ _ h⟩, frozen_of_row w _ 0 _ _ h, frozen_of_row w _ 1 _ _ h, frozen_of_row w _ 2 _ _ h, frozen_of_row w _ 3 _ _ h⟩

set_option maxHeartbeats 1600000 in
set_option maxRecDepth 100000 in
theorem to_beam : True := trivial

set_option maxHeartbeats 400000 in
set_option maxRecDepth 100000 in
theorem eq_beam : True := trivial

theorem Rd.four {w : World} {B n : Nat} {A : Option Addr} {ss : List (Int × Int × Int × Int)} (h : Rd w B A (n * 4) (bcell ss)) {k : Nat} (hk : k < n) :
    ∃ ad u v d s, A = some ad ∧ ad.block < B ∧ ss.getD k (0, 0, 0, 0) = (u, v, d, s) ∧ w.cell? (ad.add (k * 4)) = some (.int .i64 u) ∧ w.cell? ⟨(ad.add (k * 4)).block, (ad.add (k * 4)).off + 1, none⟩ = some (.int .i64 v) ∧ w.cell? ⟨(ad.add (k * 4)).block, (ad.add (k * 4)).off + 2, none⟩ = some (.int .i64 d) ∧ w.cell? ⟨(ad.add (k * 4)).block, (ad.add (k * 4)).off + 3, none⟩ = some (.int .i64 s) := by
  obtain ⟨ad, e, hb, hc⟩ := h (by omega)
  have a2 : ∀ d, 0 < d → (⟨(ad.add (k * 4)).block, (ad.add (k * 4)).off + d, none⟩ : Addr) = ad.add (k * 4 + d) := fun d hd => by
    unfold Addr.add
    rw [if_neg (show ¬ k * 4 + d = 0 by omega)]
    split
    · rename_i h0
      rw [h0, Nat.zero_add]
    · rw [Nat.add_assoc]
  have e0 := hc (k * 4) (by omega)
  have e1 := hc (k * 4 + 1) (by omega)
  have e2 := hc (k * 4 + 2) (by omega)
  have e3 := hc (k * 4 + 3) (by omega)
  have d0 : k * 4 / 4 = k := by omega
  have d1 : (k * 4 + 1) / 4 = k := by omega
  have d2 : (k * 4 + 2) / 4 = k := by omega
  have d3 : (k * 4 + 3) / 4 = k := by omega
  have m0 : k * 4 % 4 = 0 := by omega
  have m1 : (k * 4 + 1) % 4 = 1 := by omega
  have m2 : (k * 4 + 2) % 4 = 2 := by omega
  have m3 : (k * 4 + 3) % 4 = 3 := by omega
  simp only [bcell, d0, m0, if_pos] at e0
  simp only [bcell, d1, m1, if_pos, if_neg (show ¬ (1 = 0) by decide)] at e1
  simp only [bcell, d2, m2, if_pos, if_neg (show ¬ (2 = 0) by decide), if_neg (show ¬ (2 = 1) by decide)] at e2
  simp only [bcell, d3, m3, if_neg (show ¬ (3 = 0) by decide), if_neg (show ¬ (3 = 1) by decide), if_neg (show ¬ (3 = 2) by decide)] at e3
  exact ⟨ad, _, _, _, _, e, hb, rfl, e0, by rw [a2 _ (by decide)]; exact e1, by rw [a2 _ (by decide)]; exact e2, by rw [a2 _ (by decide)]; exact e3⟩

set_option maxHeartbeats 400000 in
set_option maxRecDepth 100000 in
theorem eqB_true : True := trivial

theorem szB : True := trivial
theorem szB_no : True := trivial

theorem made_beams (n : Nat) : (madeCells (Value.agg #[.int .i64 0, .int .i64 0, .int .i64 0, .int .i64 0]).cells (n * 4)).toList = lst (fun _ => .int .i64 0) (n * 4) := by
  apply List.ext_getElem?
  intro i
  by_cases hi : i < n * 4
  · have : (Value.agg #[.int .i64 0, .int .i64 0, .int .i64 0, .int .i64 0]).cells = #[.int .i64 0, .int .i64 0, .int .i64 0, .int .i64 0] := rfl
    rw [this]
    have h2 : i % 4 = 0 ∨ i % 4 = 1 ∨ i % 4 = 2 ∨ i % 4 = 3 := by omega
    rcases h2 with h2 | h2 | h2 | h2 <;> simp [madeCells, lst, hi, h2]
  · simp [madeCells, lst, hi]

set_option maxHeartbeats 1600000 in
set_option maxRecDepth 100000 in
theorem toB : True := trivial

def setc (f : Nat → Value) (j : Nat) (v : Value) : Nat → Value := fun i => if i = j then v else f i
theorem lst_setc (f : Nat → Value) (n j : Nat) (v : Value) : (lst f n).set j v = lst (setc f j v) n := by
  apply List.ext_getElem?
  intro i
  rw [List.getElem?_set]
  by_cases e : j = i
  · subst e
    by_cases hn : j < n
    · rw [if_pos rfl, if_pos (by rw [lst_len]; exact hn), lst_get _ _ _ hn]; simp [setc]
    · rw [if_pos rfl, if_neg (by rw [lst_len]; exact hn), List.getElem?_eq_none (by rw [lst_len]; omega)]
  · rw [if_neg e]
    by_cases hn : i < n
    · rw [lst_get _ _ _ hn, lst_get _ _ _ hn]; simp [setc, Ne.symm e]
    · rw [List.getElem?_eq_none (by rw [lst_len]; omega), List.getElem?_eq_none (by rw [lst_len]; omega)]
set_option maxHeartbeats 1600000 in
set_option maxRecDepth 100000 in
theorem markB : True := trivial

end Go.Proofs.Ytbefoiikbbjjfaa.listBeam
