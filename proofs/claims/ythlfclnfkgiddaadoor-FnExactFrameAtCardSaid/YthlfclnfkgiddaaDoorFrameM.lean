/- A frame in memory that is made number by number. -/
import Derived.Test.YthlfclnfkgiddaaDoorRows
import Derived.Test.YthlfclnfkgiddaaDoorSlc
import Derived.Test.YthlfclnfkgiddaaDoorSmall
import Derived.Test.YthlfclnfkgiddaaDoorWordN
import Derived.Test.YthlfclnfkgiddaaDoorNumN
import Derived.Test.YthlfclnfkgiddaaDoorWordS
import Derived.Test.YthlfclnfkgiddaaDoorFloats
import Derived.Test.YthlfclnfkgiddaaDoorRound
import Derived.Test.YthlfclnfkgiddaaDoorValues
import Derived.Test.YthlfclnfkgiddaaDoorConv
import Derived.Test.YthlfclnfkgiddaaDoorFWalk
import Derived.Test.YthlfclnfkgiddaaDoorPhase
import Derived.Test.YthlfclnfkgiddaaDoorSine
import Derived.Test.YthlfclnfkgiddaaDoorPhasor
import Derived.Test.YthlfclnfkgiddaaDoorFinWalk
import Derived.Test.YthlfclnfkgiddaaDoorFloat2
import Derived.Test.YthlfclnfkgiddaaDoorFloat3
import Derived.Test.YthlfclnfkgiddaaDoorListC
import Derived.WalkKit
import Derived.ProofKit
import Derived.OpenShut
import Derived.ShutString
import Derived.ChangeOld
import Derived.Below
import Derived.Lib.Hide
import Derived.BigQuiet
import Derived.Deep.QuietTactic
import Derived.WalkLawsBesides
import Derived.Outline
import Derived.Deep.QuietTactic
import Derived.BigQuiet
import Derived.Deep.LoopGhost
import Derived.Maps.AppendAt
import Derived.Laws.ComplexArith
namespace Go.Proofs.YthlfclnfkgiddaaDoor.frameM
open Go.ChangeShapes Go.WideShapes Go.ChangeAt Go.RowKit
open Go.ChangeMaps (open_string shut_string)
set_option linter.unusedVariables false
open Go Ieee Go.RowKit
open Go.Proofs.YthlfclnfkgiddaaDoor.slc Go.Proofs.YthlfclnfkgiddaaDoor.small Go.Proofs.YthlfclnfkgiddaaDoor.wordN Go.Proofs.YthlfclnfkgiddaaDoor.wordS Go.Proofs.YthlfclnfkgiddaaDoor.listC

/-- A block of the call's own that holds a frame. -/
def Fk (w : World) (q : Nat) (i v : Value) : Prop := w.ownsRow q 51 2 (.slice (some ⟨q, 0, none⟩) 1 1) 1 [i, v]
section
variable {w w' : World} {q : Nat} {i v : Value} {row : Option Nat}
theorem Fk.cells (h : Fk w q i v) : w.cell? ⟨q, 0, none⟩ = some i ∧ w.cell? ⟨q, 1, none⟩ = some v ∧ w.frozen? ⟨q, 0, none⟩ = false ∧ w.frozen? ⟨q, 1, none⟩ = false :=
  ⟨h.cellAt 0 (by decide), h.cellAt 1 (by decide), h.frozenAt 0, h.frozenAt 1⟩
theorem Fk.new (w : World) (i v : Value) : Fk (w.alloc (.cells #[i, v] 51)) w.heap.size i v := World.ownsRow_lit w #[i, v] 1 (Nat.le_refl _) (by decide) rfl
theorem Fk.put1 (h : Fk w q i v) (x : Value) : Fk (w.setCell ⟨q, 0, none⟩ x) q x v ∧ w.grownBy (w.setCell ⟨q, 0, none⟩ x) (some q) := h.stored 0 x
theorem Fk.put2 (h : Fk w q i v) (x : Value) : Fk (w.setCell ⟨q, 1, none⟩ x) q i x ∧ w.grownBy (w.setCell ⟨q, 1, none⟩ x) (some q) := h.stored 1 x
theorem Fk.keep (h : Fk w q i v) (hg : w.grownBy w' row) (hne : row ≠ some q) : Fk w' q i v := World.ownsRow.kept h hg (.inr (by rw [own_blk]; exact fun e => hne e.symm))
theorem Fk.lt (h : Fk w q i v) : q < w.heap.size := World.block_lt_of_cell? w _ h.cells.1
end
/-- Two frames in memory: the result's, which is empty, and one with an index and numbers. -/
structure Fr (w0 wx : World) (r q : Nat) (idx : Int) (A : Option Addr) (c : Nat) (xs : List (Nat × Nat)) : Prop where
  rb : Fk wx r (.int .i64 0) (.slice none 0 0)
  fb : Fk wx q (.int .i64 idx) (.slice A xs.length c)
  row : wx.ownsRow (r + 1) 110 1 (.slice A xs.length c) xs.length (lst (ccell xs) xs.length)
  off : A.map Addr.block ≠ some q
  gb : w0.grownBy wx none
  rw : w0.heap.size ≤ r
  rq : r < q
theorem ccell_snoc (xs : List (Nat × Nat)) (x y : Nat) : lst (ccell (xs ++ [(x, y)])) (xs ++ [(x, y)]).length = lst (ccell xs) xs.length ++ [.complex .f32 x y] := by
  apply List.ext_getElem?
  intro i
  rw [List.length_append, List.length_singleton]
  by_cases h1 : i < xs.length
  · rw [List.getElem?_append_left (by rw [lst_len]; exact h1), lst_get _ _ _ h1, lst_get _ _ _ (by omega)]
    unfold ccell
    rw [show (xs ++ [(x, y)]).getD i (0, 0) = xs.getD i (0, 0) by simp only [List.getD, List.getElem?_append_left h1]]
  · rw [List.getElem?_append_right (by rw [lst_len]; omega), lst_len]
    by_cases h2 : i = xs.length
    · subst h2
      rw [lst_get _ _ _ (by omega)]
      unfold ccell
      simp [List.getD]
    · rw [List.getElem?_eq_none (by rw [lst_len]; omega), List.getElem?_eq_none (by simp; omega)]
section
variable {w0 wx wy : World} {r q c : Nat} {idx : Int} {A : Option Addr} {xs : List (Nat × Nat)}
theorem Fr.keep (h : Fr w0 wx r q idx A c xs) (hg : wx.grownBy wy none) : Fr w0 wy r q idx A c xs :=
  ⟨h.rb.keep hg (by simp), h.fb.keep hg (by simp), own_kept0 h.row hg, h.off, h.gb.trans hg, h.rw, h.rq⟩
theorem Fr.start (w : World) : Fr w (((w.alloc (.cells #[.int .i64 0, .slice none 0 0] 51)).alloc (.cells #[] 110)).alloc (.cells #[.int .i64 0, .slice (some ⟨w.heap.size + 1, 0, none⟩) 0 0] 51)) w.heap.size (w.heap.size + 1 + 1) 0 (some ⟨w.heap.size + 1, 0, none⟩) 0 [] := by
  have g1 := World.grownBy_alloc w (.cells #[.int .i64 0, .slice none 0 0] 51) none
  have g2 := World.grownBy_alloc (w.alloc (.cells #[.int .i64 0, .slice none 0 0] 51)) (.cells #[] 110) none
  have g3 := World.grownBy_alloc ((w.alloc (.cells #[.int .i64 0, .slice none 0 0] 51)).alloc (.cells #[] 110)) (.cells #[.int .i64 0, .slice (some ⟨w.heap.size + 1, 0, none⟩) 0 0] 51) none
  have e1 : (w.alloc (.cells #[.int .i64 0, .slice none 0 0] 51)).heap.size = w.heap.size + 1 := by simp
  have e2 : ((w.alloc (.cells #[.int .i64 0, .slice none 0 0] 51)).alloc (.cells #[] 110)).heap.size = w.heap.size + 1 + 1 := by simp
  have a := (Fk.new w (.int .i64 0) (.slice none 0 0)).keep (g2.trans g3) (by simp)
  have b := Fk.new ((w.alloc (.cells #[.int .i64 0, .slice none 0 0] 51)).alloc (.cells #[] 110)) (.int .i64 0) (.slice (some ⟨w.heap.size + 1, 0, none⟩) 0 0)
  rw [e2] at b
  have d := World.ownsRow_lit (base := w.heap.size + 1) (e := 110) (size := 1) (w.alloc (.cells #[.int .i64 0, .slice none 0 0] 51)) #[] 0 (by rw [e1]; exact Nat.le_refl _) (Nat.zero_le _) rfl
  rw [e1] at d
  exact ⟨a, b, own_kept0 d g3, by simp, g1.trans (g2.trans g3), Nat.le_refl _, by omega⟩
theorem Fr.index (h : Fr w0 wx r q idx A c xs) (i' : Int) : Fr w0 (wx.setCell ⟨q, 0, none⟩ (.int .i64 i')) r q i' A c xs := by
  obtain ⟨p1, p2⟩ := h.fb.put1 (.int .i64 i')
  have h1 := h.rq
  have h2 := h.rw
  exact ⟨h.rb.keep p2 (by intro e; injection e with e; omega), p1, World.ownsRow.kept h.row p2 (.inr (by rw [own_blk]; exact h.off)), h.off, gb_new h.gb p2 (by intro g e; injection e with e; omega), h.rw, h.rq⟩
/-- A number more. -/
theorem Fr.more (h : Fr w0 wx r q idx A c xs) (x y : Nat) (hn : xs.length < 1000) :
    ∃ A' c' w6, (appS #[27, 27] 27 #[.slice A xs.length c, .slice (some ⟨wx.heap.size, 0, none⟩) 1 1]).run Tryd.prog (wx.alloc (.cells #[.complex .f32 x y] 110)) = .ok (.slice A' (xs.length + 1) c') w6 ∧
      w6.cell? ⟨q, 1, none⟩ = some (.slice A xs.length c) ∧ w6.frozen? ⟨q, 1, none⟩ = false ∧ Fr w0 (w6.setCell ⟨q, 1, none⟩ (.slice A' (xs.length + 1) c')) r q idx A' c' (xs ++ [(x, y)]) := by
  obtain ⟨i0, hi0, hz0, hz1, hz2⟩ := info_parts infoC
  have g0 := World.grownBy_alloc wx (.cells #[.complex .f32 x y] 110) none
  have hq := h.fb.lt
  have hrq := h.rq
  have hrw := h.rw
  obtain ⟨v6, w6, hrun, r1, r2, _, r3⟩ := run_append_own_at (P := Tryd.prog) (w := wx.alloc (.cells #[.complex .f32 x y] 110)) (r + 1) 27 27 110 i0 (.complex .f32 0 0) 1 8 Tryd.underlying27 hi0 hz0 hz1 hz2 rfl (by decide) _ _ _ (own_kept0 h.row g0) ⟨wx.heap.size, 0, none⟩ 1 1 [.complex .f32 x y] rfl (World.news_of_block (cs := #[.complex .f32 x y]) (t := 110) (fr := (0, 0)) (heap_alloc_new wx _)) (by intro u hu; simp at hu; subst hu; rfl) (by unfold maxLen; omega) (by omega) (by simp; omega)
  obtain ⟨A6, c6, rfl⟩ := row_slice r1
  rw [own_blk] at r2
  rw [own_blk, own_blk] at r3
  have hb := own_base h.row
  have f6 := (h.fb.keep g0 (by simp)).keep r2 h.off
  have b6 := (h.rb.keep g0 (by simp)).keep r2 (fun e => by have := (hb r e).1; omega)
  have off6 : A6.map Addr.block ≠ some q := by
    intro e
    rcases r3 with r3 | r3
    · exact h.off (r3.symm.trans e)
    · rw [e] at r3; injection r3 with r3; simp at r3; omega
  have gb6 := gb_new (h.gb.trans g0) r2 (fun g e => by have := (hb g e).1; omega)
  obtain ⟨p1, p2⟩ := f6.put2 (.slice A6 (xs.length + 1) c6)
  have hl : (xs ++ [(x, y)]).length = xs.length + 1 := by simp
  refine ⟨A6, c6, w6, hrun, f6.cells.2.1, f6.cells.2.2.2, ⟨b6.keep p2 (by intro e; injection e with e; omega), by rw [hl]; exact p1, ?_, off6, gb_new gb6 p2 (by intro g e; injection e with e; omega), h.rw, h.rq⟩⟩
  rw [ccell_snoc, hl]
  exact World.ownsRow.kept r1 p2 (.inr (by rw [own_blk]; exact off6))
end

end Go.Proofs.YthlfclnfkgiddaaDoor.frameM
