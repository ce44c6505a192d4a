/- Matrices of the model. -/
import Derived.Test.YtabbfpjngbiohaaRows
import Derived.Test.YtabbfpjngbiohaaSlc
import Derived.Test.YtabbfpjngbiohaaSmall
import Derived.Test.YtabbfpjngbiohaaFloats
import Derived.Test.YtabbfpjngbiohaaRound
import Derived.Test.YtabbfpjngbiohaaValues
import Derived.Test.YtabbfpjngbiohaaConv
import Derived.Test.YtabbfpjngbiohaaFWalk
import Derived.Test.YtabbfpjngbiohaaFinWalk
import Derived.Test.YtabbfpjngbiohaaFloat2
import Derived.Test.YtabbfpjngbiohaaFloat3
import Derived.Test.YtabbfpjngbiohaaPhase
import Derived.Test.YtabbfpjngbiohaaSine
import Derived.Test.YtabbfpjngbiohaaPhasor
import Derived.Test.YtabbfpjngbiohaaListC
import Derived.Test.YtabbfpjngbiohaaListCC
import Derived.Test.YtabbfpjngbiohaaNest
import Derived.Test.YtabbfpjngbiohaaMat
import Derived.WalkKit
import Derived.ProofKit
import Derived.OpenShut
import Derived.ShutString
import Derived.ChangeOld
import Derived.Below
import Derived.Lib.Hide
import Derived.BigQuiet
import Derived.Deep.QuietTactic
import Derived.WalkLawsBesides
import Derived.Outline
import Derived.Deep.QuietTactic
import Derived.BigQuiet
import Derived.Deep.LoopGhost
import Derived.Deep.RegionHeld3
import Derived.Deep.RegionWith
import Derived.Deep.RegionLaw
import Derived.Deep.AppendLies
import Derived.Laws.ComplexArith
import Derived.StillTailTactics
import Derived.Deep.OwnRows
import Derived.RangeFuncBox
namespace Go.Proofs.Ytabbfpjngbiohaa.matZ
open Go.ChangeShapes Go.WideShapes Go.ChangeAt Go.RowKit
open Go.ChangeMaps (open_string shut_string)
set_option linter.unusedVariables false
open Go Ieee Go.RowKit
open Go.Proofs.Ytabbfpjngbiohaa.slc Go.Proofs.Ytabbfpjngbiohaa.small Go.Proofs.Ytabbfpjngbiohaa.floats Go.Proofs.Ytabbfpjngbiohaa.listC Go.Proofs.Ytabbfpjngbiohaa.listCC Go.Proofs.Ytabbfpjngbiohaa.nest Go.Proofs.Ytabbfpjngbiohaa.mat

theorem lst_succ (f : Nat → Value) (n : Nat) : lst f (n + 1) = lst f n ++ [f n] := by simp [lst, List.range_succ]
def zr : Nat → Value := fun _ => .complex .f32 0 0
/-- i rows of zeros are appended. W: the world at the beginning; b: the block of the rows. -/
structure MS (W wr : World) (b cp m : Nat) (a c : Nat → Nat) (i : Nat) : Prop where
  box : wr.ownsRow W.heap.size 82 1 (.slice (some ⟨W.heap.size + 1 + 1, 0, none⟩) 1 1) 1 [.slice (some ⟨b, 0, none⟩) i cp]
  res : wr.heap[W.heap.size]? = some (.cells #[.slice none 0 0] 82)
  outer : wr.ownsRow (W.heap.size + 1) 24 1 (.slice (some ⟨b, 0, none⟩) i cp) i (lst (orow a c m) i)
  rows : ∀ k, k < i → wr.ownsRow (W.heap.size + 3) 36 1 (orow a c m k) m (lst zr m)
  apart : ∀ j k, j < i → k < i → j ≠ k → a j ≠ a k
  other : ∀ k, k < i → a k ≠ b
  nb : b ≠ W.heap.size + 1 + 1
  gb : W.grownBy wr none
  sz : W.heap.size + 3 ≤ wr.heap.size
section
variable {W wr w2 : World} {b cp m i : Nat} {a c : Nat → Nat}
theorem MS.kept (h : MS W wr b cp m a c i) (hg : wr.grownBy w2 none) : MS W w2 b cp m a c i :=
  ⟨own_kept0 h.box hg, (hg.block _ (by have := h.sz; omega) (by simp)).trans h.res, own_kept0 h.outer hg, fun k hk => own_kept0 (h.rows k hk) hg, h.apart, h.other, h.nb, h.gb.trans hg, Nat.le_trans h.sz hg.size⟩
theorem MS.row_at (h : MS W wr b cp m a c i) {k : Nat} (hk : k < i) : W.heap.size + 3 ≤ a k ∧ a k < wr.heap.size := own_base (h.rows k hk) (a k) rfl
theorem MS.b_at (h : MS W wr b cp m a c i) : W.heap.size + 1 ≤ b ∧ b < wr.heap.size := own_base h.outer b rfl
/-- A row more is appended. -/
theorem MS.step {X w6 : World} {gg cap : Nat} (h : MS W wr b cp m a c i) (hX : wr.grownBy X none) (hs : wr.heap.size + 1 ≤ X.heap.size) (hrow : X.ownsRow (W.heap.size + 3) 36 1 (.slice (some ⟨wr.heap.size, 0, none⟩) m m) m (lst zr m))
    (hown : w6.ownsRow (W.heap.size + 1) 24 1 (.slice (some ⟨gg, 0, none⟩) (i + 1) cap) (i + 1) (lst (orow a c m) i ++ [.slice (some ⟨wr.heap.size, 0, none⟩) m m])) (hg : X.grownBy w6 (some b)) (hat : some b = some gg ∨ gg = X.heap.size) :
    MS W (w6.setCell ⟨W.heap.size + 1 + 1, 0, none⟩ (.slice (some ⟨gg, 0, none⟩) (i + 1) cap)) gg cap m (fun k => if k = i then wr.heap.size else a k) (fun k => if k = i then m else c k) (i + 1) := by
  have hx := h.kept hX
  have hb := h.b_at
  have hsz := h.sz
  have hnb := h.nb
  have hgx := hg.size
  have box6 := World.ownsRow.kept hx.box hg (.inr (by simp [Value.ownBlock]; omega))
  obtain ⟨p1, q1⟩ := box6.stored 0 (.slice (some ⟨gg, 0, none⟩) (i + 1) cap)
  have hgg : gg ≠ W.heap.size + 1 + 1 := by
    rcases hat with e | e
    · injection e with e; omega
    · omega
  have hga : ∀ k, k < i → a k ≠ gg := fun k hk => by
    have := h.row_at hk
    have := h.other k hk
    rcases hat with e | e
    · injection e with e; omega
    · omega
  have hgn : wr.heap.size ≠ gg := by
    rcases hat with e | e
    · injection e with e; omega
    · omega
  have e2 : orow (fun k => if k = i then wr.heap.size else a k) (fun k => if k = i then m else c k) m i = .slice (some ⟨wr.heap.size, 0, none⟩) m m := by simp [orow]
  have e1 : lst (orow (fun k => if k = i then wr.heap.size else a k) (fun k => if k = i then m else c k) m) (i + 1) = lst (orow a c m) i ++ [.slice (some ⟨wr.heap.size, 0, none⟩) m m] := by
    rw [lst_succ, e2]
    congr 1
    exact lst_congr fun j hj => by simp [orow, show ¬ j = i by omega]
  refine ⟨p1, ?_, ?_, fun k hk => ?_, fun j k hj hk hne => ?_, fun k hk => ?_, hgg, gb_new (gb_new hx.gb hg (by intro g e; injection e with e; omega)) q1 (by intro g e; injection e with e; omega), by have := q1.size; omega⟩
  · exact (q1.block _ (by omega) (by intro e; injection e with e; omega)).trans ((hg.block _ (by omega) (by intro e; injection e with e; omega)).trans hx.res)
  · rw [e1]
    exact World.ownsRow.kept hown q1 (.inr (by simp [Value.ownBlock]; omega))
  · by_cases e : k = i
    · subst e
      rw [e2]
      exact World.ownsRow.kept (World.ownsRow.kept hrow hg (.inr (by simp [Value.ownBlock]; omega))) q1 (.inr (by simp [Value.ownBlock]; omega))
    · have hk' : k < i := by omega
      have r1 := h.row_at hk'
      have r2 := h.other k hk'
      rw [show orow (fun k => if k = i then wr.heap.size else a k) (fun k => if k = i then m else c k) m k = orow a c m k by simp [orow, e]]
      exact World.ownsRow.kept (World.ownsRow.kept (hx.rows k hk') hg (.inr (by simp [orow, Value.ownBlock]; omega))) q1 (.inr (by simp [orow, Value.ownBlock]; omega))
  · by_cases ej : j = i
    · have hk' : k < i := by omega
      have := h.row_at hk'
      simp only [ej, if_pos, if_neg (show ¬ k = i by omega)]
      omega
    · have hj' : j < i := by omega
      have := h.row_at hj'
      by_cases ek : k = i
      · simp only [ek, if_pos, if_neg ej]
        omega
      · simp only [if_neg ej, if_neg ek]
        exact h.apart j k hj' (by omega) hne
  · by_cases e : k = i
    · simp only [e, if_pos]
      exact hgn
    · simp only [if_neg e]
      exact hga k (by omega)
theorem MS.own (h : MS W wr b cp m a c i) : OwnN wr W.heap.size (.slice (some ⟨b, 0, none⟩) i cp) i m a c (fun _ => zr) :=
  ⟨own_mono h.outer (by omega), fun k hk => own_mono (h.rows k hk) (by omega), h.apart, fun k hk => by
    have := h.other k hk
    simp [Value.ownBlock]
    omega⟩
theorem MS.fin (h : MS W wr b cp m a c i) (v : Value) : OwnN (wr.setCell ⟨W.heap.size, 0, none⟩ v) W.heap.size (.slice (some ⟨b, 0, none⟩) i cp) i m a c (fun _ => zr) ∧ W.grownBy (wr.setCell ⟨W.heap.size, 0, none⟩ v) none := by
  have q := grownBy_setCell' wr W.heap.size v
  have ho := h.own
  have hb := h.b_at
  refine ⟨⟨World.ownsRow.kept ho.outer q (.inr (by simp [Value.ownBlock]; omega)), fun k hk => World.ownsRow.kept (ho.rows k hk) q (.inr ?_), ho.apart, ho.other⟩, gb_new h.gb q (by intro g e; injection e with e; omega)⟩
  have := h.row_at hk
  simp [orow, Value.ownBlock]
  omega
end

theorem one_slice (A : Option Addr) (n c : Nat) : ∀ u ∈ [Value.slice A n c], u.oneCell' = true := by
  intro u hu
  rw [List.mem_singleton] at hu
  subst hu; rfl

set_option maxHeartbeats 800000 in
set_option maxRecDepth 100000 in
theorem zero_s (n m : Nat) (w : World) (h1 : 1 ≤ m) (hn : n ≤ 1000) (hm : m ≤ 1000) :
    Calls Try.prog 187 #[.int .i64 n, .int .i64 m] w fun e w' => ∃ A d a c, e = .returned (.agg #[.slice A n d]) ∧ OwnN w' w.heap.size (.slice A n d) n m a c (fun _ => zr) ∧ w.grownBy w' none := by
  obtain ⟨i0, hi0, hz0, hz1, hz2⟩ := info_parts infoR
  go_enter Try.func187, Try.ntmps187
  go_wp2_with fail
  have HI0 : MS w (((w.alloc (.cells #[.slice none 0 0] 82)).alloc (.cells #[] 24)).alloc (.cells #[.slice (some ⟨w.heap.size + 1, 0, none⟩) 0 0] 82)) (w.heap.size + 1) 0 m (fun _ => 0) (fun _ => 0) 0 := by
    have s1 : (w.alloc (.cells #[.slice none 0 0] 82)).heap.size = w.heap.size + 1 := by simp
    have s2 : ((w.alloc (.cells #[.slice none 0 0] 82)).alloc (.cells #[] 24)).heap.size = w.heap.size + 1 + 1 := by simp
    have g1 := World.grownBy_alloc w (.cells #[.slice none 0 0] 82) none
    have g2 := World.grownBy_alloc (w.alloc (.cells #[.slice none 0 0] 82)) (.cells #[] 24) none
    have g3 := World.grownBy_alloc ((w.alloc (.cells #[.slice none 0 0] 82)).alloc (.cells #[] 24)) (.cells #[.slice (some ⟨w.heap.size + 1, 0, none⟩) 0 0] 82) none
    have box := World.ownsRow_lit (base := w.heap.size) (e := 82) (size := 1) ((w.alloc (.cells #[.slice none 0 0] 82)).alloc (.cells #[] 24)) #[.slice (some ⟨w.heap.size + 1, 0, none⟩) 0 0] 1 (by rw [s2]; omega) (by decide) rfl
    have out := World.ownsRow_lit (base := w.heap.size + 1) (e := 24) (size := 1) (w.alloc (.cells #[.slice none 0 0] 82)) #[] 0 (by rw [s1]; omega) (by decide) rfl
    rw [s2] at box
    rw [s1] at out
    exact ⟨box, (g3.block _ (by rw [s2]; omega) (by simp)).trans ((g2.block _ (by rw [s1]; omega) (by simp)).trans (heap_alloc_new w _)), own_kept0 out g3, fun k hk => absurd hk (by omega), fun j k hj => absurd hj (by omega), fun k hk => absurd hk (by omega), by omega, (g1.trans g2).trans g3, by simp⟩
  have HII := Lib.hid HI0
  clear HI0
  go_loopw [6] (fun i wr => ∃ k : Nat, k ≤ n ∧ i = .int .i64 k ∧ ∃ b cp a c, MS w wr b cp m a c k) (fun i _ => n - (intOf i).toNat)
  case atStart => exact ⟨0, Nat.zero_le _, rfl, _, _, _, _, HII.out⟩
  case round =>
    obtain ⟨k, hk, rfl, b, cp, a, c, hI⟩ := hrel
    have hb0 : wr.cell? ⟨w.heap.size + 1 + 1, 0, none⟩ = some (.slice (some ⟨b, 0, none⟩) k cp) := hI.box.cells rfl 0 _ rfl
    by_cases hlt : k < n
    · have hk0 : (0 : Int) ≤ k := by omega
      have hk1 : (k : Int) < n := by omega
      obtain ⟨R, hR⟩ : ∃ R, R = Obj.cells (madeCells #[.complex .f32 0 0] m) 36 := ⟨_, rfl⟩
      obtain ⟨L, hL⟩ : ∃ L, L = Obj.cells #[.slice (some ⟨wr.heap.size, 0, none⟩) m m] 24 := ⟨_, rfl⟩
      have hal1 := World.grownBy_alloc wr R none
      have hal2 := World.grownBy_alloc (wr.alloc R) L none
      have hX : wr.grownBy ((wr.alloc R).alloc L).drew none := (hal1.trans hal2).trans (gb_drewN _ 1 none)
      have hsX : ((wr.alloc R).alloc L).drew.heap.size = wr.heap.size + 1 + 1 := by show ((wr.alloc R).alloc L).heap.size = _; simp
      have hOX := own_kept0 hI.outer hX
      have hb1 : (wr.alloc R).drew.cell? ⟨w.heap.size + 1 + 1, 0, none⟩ = some (.slice (some ⟨b, 0, none⟩) k cp) := hal1.cell hb0 (by simp)
      have hb2 := hX.cell hb0 (by simp)
      have hBX := own_kept0 hI.box hX
      have hblk : ((wr.alloc R).alloc L).drew.heap[wr.heap.size + 1]? = some L := by
        have := heap_alloc_new (wr.alloc R) L
        rw [show (wr.alloc R).heap.size = wr.heap.size + 1 by simp] at this
        exact this
      have hrow := World.ownsRow_lit (base := w.heap.size + 3) (e := 36) (size := 1) wr (madeCells #[.complex .f32 0 0] m) m hI.sz (by unfold maxLen; omega) (by simp [madeCells])
      rw [toList_madeCells_one, replicate_lst, ← hR] at hrow
      have hrX := (own_kept0 hrow hal2).drew
      have hb := hI.b_at
      have hnb := hI.nb
      have hbase : w.heap.size + 1 ≤ ((wr.alloc R).alloc L).drew.heap.size := by rw [hsX]; omega
      have HI := Lib.hid hI
      have HX := Lib.hid hX
      have HRX := Lib.hid hrX
      have q1 : k + 1 ≤ maxLen := by unfold maxLen; omega
      have q2 : (k + 1) * 24 ≤ 140737488355328 := by omega
      have hmk := make_row m hm
      rw [← hR] at hmk
      clear hI hal1 hal2 hX hrow hrX
      subst hR hL
      go_wp2_with fail
      go_region_law (first
         | (refine step_append_lies _ (by rfl) _ _ _ (by rfl) (w.heap.size + 1) 24 i0 _ 1 24 Try.underlying75 hi0 hz0 hz1 hz2 rfl Nat.one_pos _ _ _ (by rfl) hOX
               ⟨wr.heap.size + 1, 0, none⟩ 1 1 [.slice (some ⟨wr.heap.size, 0, none⟩) m m] (by rfl) (by rfl) (World.news_of_block (cs := #[.slice (some ⟨wr.heap.size, 0, none⟩) m m]) (t := 24) (fr := (0, 0)) hblk) (one_slice _ _ _)
               Nat.one_pos q1 q2 hbase (wr.heap.size + 1 + 1) hsX ?_
            intro gg cap w6 hown6 hgrow hat hltg
            have hgrow' : ((wr.alloc (.cells (madeCells #[.complex .f32 0 0] m) 36)).alloc (.cells #[.slice (some ⟨wr.heap.size, 0, none⟩) m m] 24)).drew.grownBy w6 (some b) := hgrow
            have box6 := World.ownsRow.kept hBX hgrow' (.inr (by simp [Value.ownBlock]; omega))
            have hb6 : w6.cell? ⟨w.heap.size + 1 + 1, 0, none⟩ = some (.slice (some ⟨b, 0, none⟩) k cp) := box6.cells rfl 0 _ rfl
            have hf6 := box6.frozenAt 0
            clear box6))
      all_goals
        have HN := Lib.hid (HI.out.step HX.out (by rw [hsX]; omega) HRX.out hown6 hgrow' (by rw [hsX]; exact hat))
        clear hown6 hgrow hgrow' hat hb6 hf6 hb0 hb1 hb2 hBX hOX hblk hmk
        go_wp2_with fail
        go_roundw
        case rel => exact ⟨k + 1, by omega, by go_num, _, _, _, _, HN.out⟩
        case measure => simp [intOf]; omega
    · obtain rfl : k = n := by omega
      have hres := cell_of_row _ _ 0 _ _ _ hI.res
      have hrf := frozen_of_row _ _ 0 _ _ hI.res
      have HN := Lib.hid hI.fin
      clear hI
      go_wp2_with fail
      refine bodyPost_ret (v := .agg #[.slice (some ⟨b, 0, none⟩) k cp]) (by simp [results, Try.results187, go_sem, hres]) rfl ?_
      exact ⟨_, _, rfl, ⟨_, _, (HN.out _).1⟩, (HN.out _).2⟩

end Go.Proofs.Ytabbfpjngbiohaa.matZ
