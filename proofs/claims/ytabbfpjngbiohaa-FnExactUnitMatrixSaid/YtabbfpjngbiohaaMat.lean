/- Matrices in memory, made by the program and the model. -/
import Derived.Test.YtabbfpjngbiohaaRows
import Derived.Test.YtabbfpjngbiohaaSlc
import Derived.Test.YtabbfpjngbiohaaSmall
import Derived.Test.YtabbfpjngbiohaaFloats
import Derived.Test.YtabbfpjngbiohaaRound
import Derived.Test.YtabbfpjngbiohaaValues
import Derived.Test.YtabbfpjngbiohaaConv
import Derived.Test.YtabbfpjngbiohaaFWalk
import Derived.Test.YtabbfpjngbiohaaFinWalk
import Derived.Test.YtabbfpjngbiohaaFloat2
import Derived.Test.YtabbfpjngbiohaaFloat3
import Derived.Test.YtabbfpjngbiohaaPhase
import Derived.Test.YtabbfpjngbiohaaSine
import Derived.Test.YtabbfpjngbiohaaPhasor
import Derived.Test.YtabbfpjngbiohaaListC
import Derived.Test.YtabbfpjngbiohaaListCC
import Derived.Test.YtabbfpjngbiohaaNest
import Derived.WalkKit
import Derived.ProofKit
import Derived.OpenShut
import Derived.ShutString
import Derived.ChangeOld
import Derived.Below
import Derived.Lib.Hide
import Derived.BigQuiet
import Derived.Deep.QuietTactic
import Derived.WalkLawsBesides
import Derived.Outline
import Derived.Deep.QuietTactic
import Derived.BigQuiet
import Derived.Deep.LoopGhost
import Derived.Deep.RegionHeld3
import Derived.Deep.RegionWith
import Derived.Laws.ComplexArith
import Derived.StillTailTactics
import Derived.Deep.OwnRows
import Derived.RangeFuncBox
namespace Go.Proofs.Ytabbfpjngbiohaa.mat
open Go.ChangeShapes Go.WideShapes Go.ChangeAt Go.RowKit
open Go.ChangeMaps (open_string shut_string)
set_option linter.unusedVariables false
open Go Ieee Go.RowKit
open Go.Proofs.Ytabbfpjngbiohaa.slc Go.Proofs.Ytabbfpjngbiohaa.small Go.Proofs.Ytabbfpjngbiohaa.floats Go.Proofs.Ytabbfpjngbiohaa.listC Go.Proofs.Ytabbfpjngbiohaa.listCC Go.Proofs.Ytabbfpjngbiohaa.nest

theorem infoR : (Try.prog.info? 24).map (fun i => (i.zero, i.size, i.bytes)) = some (some (.slice none 0 0), 1, 24) := by kernel_rfl

theorem make_row (m : Nat) (hm : m ≤ 1000) (w : World) : (Instr.makeSlice 24 (.int .i64 (m : Int)) (.int .i64 (m : Int))).run Try.prog w = .ok (.slice (some ⟨w.heap.size, 0, none⟩) m m) (w.alloc (.cells (madeCells #[.complex .f32 0 0] m) 36)) := by
  obtain ⟨i0, hi0, hz0, hz1, hz2⟩ := info_parts infoC
  exact run_make_row 24 36 i0 (.complex .f32 0 0) Try.underlying24 hi0 hz0 hz1 rfl .i64 .i64 m (by rw [hz2]; omega) (by omega) w
theorem run_store_slice {P : Program} {w : World} {md : Mode} (a : Addr) (A : Option Addr) (n c : Nat) : (store a (.slice A n c) md).run P w = stored P w a (.slice A n c) md := run_store P w a _ md rfl
attribute [local go_sem] run_store_slice run_store_complex
def nv : Nat → Value := fun _ => .slice none 0 0
/-- Rows below i are laid, with the contents f. W: the world at the beginning; M: the block of the matrix. -/
structure MI (W : World) (M : Nat) (wr : World) (n m : Nat) (f : Nat → Nat → Value) (a c : Nat → Nat) (i : Nat) : Prop where
  box : wr.cell? ⟨M, 0, none⟩ = some (.slice (some ⟨W.heap.size + 1, 0, none⟩) n n)
  res : wr.heap[W.heap.size]? = some (.cells #[.slice none 0 0] 82)
  outer : wr.ownsRow W.heap.size 24 1 (.slice (some ⟨W.heap.size + 1, 0, none⟩) n n) n (lst (mix (orow a c m) nv i) n)
  rows : ∀ k, k < i → wr.ownsRow (M + 1) 36 1 (orow a c m k) m (lst (f k) m)
  apart : ∀ j k, j < i → k < i → j ≠ k → a j ≠ a k
  gb : W.grownBy wr none
  lo : W.heap.size + 2 ≤ M
  sz : M + 1 ≤ wr.heap.size
section
variable {W wr w2 : World} {M n m i : Nat} {f : Nat → Nat → Value} {a c : Nat → Nat}
theorem MI.row_at (h : MI W M wr n m f a c i) {k : Nat} (hk : k < i) : M + 1 ≤ a k ∧ a k < wr.heap.size := own_base (h.rows k hk) (a k) rfl
theorem MI.kept (h : MI W M wr n m f a c i) (hg : wr.grownBy w2 none) : MI W M w2 n m f a c i :=
  ⟨hg.cell h.box (by simp), (hg.block _ (by have := h.sz; have := h.lo; omega) (by simp)).trans h.res, own_kept0 h.outer hg, fun k hk => own_kept0 (h.rows k hk) hg, h.apart, h.gb.trans hg, h.lo, Nat.le_trans h.sz hg.size⟩
theorem MI.drew (h : MI W M wr n m f a c i) : MI W M wr.drew n m f a c i := h.kept (gb_drewN wr 1 none)
/-- A row that is laid changes. -/
theorem MI.put (h : MI W M wr n m f a c i) {r : Nat} (hr : r < i) {g : Nat → Value} (ho : w2.ownsRow (M + 1) 36 1 (orow a c m r) m (lst g m)) (hg : wr.grownBy w2 (some (a r))) :
    MI W M w2 n m (fun k => if k = r then g else f k) a c i := by
  obtain ⟨b1, b2⟩ := h.row_at hr
  have hlo := h.lo
  have hsz := h.sz
  refine ⟨hg.cell h.box (show some M ≠ some (a r) by intro e; injection e with e; omega), (hg.block _ (by omega) (by intro e; injection e with e; omega)).trans h.res,
    World.ownsRow.kept h.outer hg (.inr (by simp [Value.ownBlock]; omega)), fun k hk => ?_, h.apart, gb_new h.gb hg (by intro g e; injection e with e; omega), h.lo, Nat.le_trans h.sz hg.size⟩
  by_cases e : k = r
  · subst e
    rw [if_pos rfl]
    exact ho
  · rw [if_neg e]
    exact World.ownsRow.kept (h.rows k hk) hg (.inr (by simpa [orow, Value.ownBlock] using h.apart k r hk hr e))
/-- A new row is laid. -/
theorem MI.lay (h : MI W M wr n m f a c i) (hi : i < n) {g : Nat} {fr : Nat → Value} (hg : wr.grownBy w2 none) (hn : wr.heap.size ≤ g) (ho : w2.ownsRow (M + 1) 36 1 (.slice (some ⟨g, 0, none⟩) m m) m (lst fr m)) :
    MI W M (w2.setCell ⟨W.heap.size + 1, i, none⟩ (.slice (some ⟨g, 0, none⟩) m m)) n m (fun k => if k = i then fr else f k) (fun k => if k = i then g else a k) (fun k => if k = i then m else c k) (i + 1) := by
  have h2 := h.kept hg
  have hlo := h.lo
  have hsz := h.sz
  have hsz2 := h2.sz
  have e1 : mix (orow (fun k => if k = i then g else a k) (fun k => if k = i then m else c k) m) nv i = mix (orow a c m) nv i := by
    funext k
    unfold mix orow
    dsimp only
    by_cases hk : k < i
    · rw [if_pos hk, if_pos hk, if_neg (by omega), if_neg (by omega)]
    · rw [if_neg hk, if_neg hk]
  have e2 : orow (fun k => if k = i then g else a k) (fun k => if k = i then m else c k) m i = .slice (some ⟨g, 0, none⟩) m m := by simp [orow]
  obtain ⟨p1, q1⟩ := h2.outer.stored i (.slice (some ⟨g, 0, none⟩) m m)
  have hbg := own_base ho g rfl
  refine ⟨q1.cell h2.box (show some M ≠ some (W.heap.size + 1) by intro e; injection e with e; omega), (q1.block _ (by omega) (by intro e; injection e with e; omega)).trans h2.res, ?_, fun k hk => ?_, fun j k hj hk hne => ?_, gb_new h2.gb q1 (by intro g e; injection e with e; omega), h.lo, Nat.le_trans hsz2 q1.size⟩
  · rw [← mix_set _ _ _ _ hi, e1, e2]
    exact p1
  · by_cases e : k = i
    · subst e
      rw [e2, if_pos rfl]
      exact World.ownsRow.kept ho q1 (.inr (by simp [Value.ownBlock]; omega))
    · have hk' : k < i := by omega
      have := h2.row_at hk'
      rw [if_neg e, show orow (fun k => if k = i then g else a k) (fun k => if k = i then m else c k) m k = orow a c m k by simp [orow, e]]
      exact World.ownsRow.kept (h2.rows k hk') q1 (.inr (by simp [orow, Value.ownBlock]; omega))
  · by_cases ej : j = i
    · have hk' : k < i := by omega
      have := h.row_at hk'
      simp only [ej, if_pos, if_neg (show ¬ k = i by omega)]
      omega
    · have hj' : j < i := by omega
      have := h.row_at hj'
      by_cases ek : k = i
      · simp only [ek, if_pos, if_neg ej]
        omega
      · simp only [if_neg ej, if_neg ek]
        exact h.apart j k hj' (by omega) hne
theorem MI.congr (h : MI W M wr n m f a c i) {f' : Nat → Nat → Value} (e : ∀ k, k < i → lst (f k) m = lst (f' k) m) : MI W M wr n m f' a c i :=
  ⟨h.box, h.res, h.outer, fun k hk => by rw [← e k hk]; exact h.rows k hk, h.apart, h.gb, h.lo, h.sz⟩
theorem MI.own (h : MI W M wr n m f a c n) : OwnN wr W.heap.size (.slice (some ⟨W.heap.size + 1, 0, none⟩) n n) n m a c f :=
  ⟨by rw [← mix_full _ nv]; exact h.outer, fun k hk => own_mono (h.rows k hk) (by have := h.lo; omega), h.apart, fun k hk => by
    have := h.row_at hk
    have := h.lo
    simp [Value.ownBlock]
    omega⟩
theorem MI.fin (h : MI W M wr n m f a c n) (v : Value) : OwnN (wr.setCell ⟨W.heap.size, 0, none⟩ v) W.heap.size (.slice (some ⟨W.heap.size + 1, 0, none⟩) n n) n m a c f ∧ W.grownBy (wr.setCell ⟨W.heap.size, 0, none⟩ v) none := by
  have q := grownBy_setCell' wr W.heap.size v
  have ho := h.own
  refine ⟨⟨World.ownsRow.kept ho.outer q (.inr (by simp [Value.ownBlock])), fun k hk => World.ownsRow.kept (ho.rows k hk) q (.inr ?_), ho.apart, ho.other⟩, gb_new h.gb q (by intro g e; injection e with e; omega)⟩
  have := h.row_at hk
  have := h.lo
  simp [orow, Value.ownBlock]
  omega
end
theorem lst_none (n : Nat) (f : Nat → Value) (e : ∀ j, j < n → f j = .slice none 0 0) : lst f n = List.replicate n (.slice none 0 0) := by
  rw [replicate_lst]
  exact lst_congr e

set_option maxHeartbeats 800000 in
set_option maxRecDepth 100000 in
theorem matrix_i (n m : Nat) (num : Nat → Nat → Nat × Nat) (w : World) (h1 : 1 ≤ m) (hn : n ≤ 1000) (hm : m ≤ 1000)
    (HF : ∀ (i j : Nat) (w : World), i < n → j < m → Calls Try.prog 189 #[.int .i64 (i : Int), .int .i64 (j : Int)] w fun e w' => e = .returned (.complex .f32 (num i j).1 (num i j).2) ∧ w.grownBy w' none) :
    Calls Try.prog 188 #[.int .i64 n, .int .i64 m, .func (.func 189) #[] #[]] w fun e w' => ∃ A d a c, e = .returned (.agg #[.slice A n d]) ∧ OwnN w' w.heap.size (.slice A n d) n m a c (fun i => ccell ((List.range m).map (num i))) ∧ w.grownBy w' none := by
  go_enter Try.func188, Try.ntmps188
  obtain ⟨i0, hi0, hz0, hz1, hz2⟩ := info_parts infoR
  go_wp2_with (at_make; refine wpList_make_full _ rfl _ _ _ rfl w.heap.size 24 i0 (.slice none 0 0) 1 Try.underlying75 hi0 hz0 hz1 _ _ _ _ n rfl rfl rfl rfl (by rw [hz2]; omega) (by unfold maxLen; omega) (by simp) ?_; intro w1 hown hg)
  have HI0 : MI w w1.heap.size (w1.alloc (.cells #[.slice (some ⟨w.heap.size + 1, 0, none⟩) n n] 82)) n m (fun i => ccell ((List.range m).map (num i))) (fun _ => 0) (fun _ => 0) 0 := by
    have hs := hg.size
    have hsa : (w.alloc (.cells #[.slice none 0 0] 82)).heap.size = w.heap.size + 1 := by simp
    have hal := World.grownBy_alloc w1 (.cells #[.slice (some ⟨w.heap.size + 1, 0, none⟩) n n] 82) none
    have hlt : w.heap.size ≤ (w.alloc (.cells #[.slice none 0 0] 82)).heap.size ∧ (w.alloc (.cells #[.slice none 0 0] 82)).heap.size < w1.heap.size := own_base hown _ rfl
    refine ⟨?_, ?_, ?_, fun k hk => absurd hk (by omega), fun j k hj => absurd hj (by omega), ((World.grownBy_alloc w _ none).trans hg).trans hal, ?_, by simp⟩
    · exact cell_of_row _ w1.heap.size 0 _ _ _ (heap_alloc_new w1 _)
    · exact (hal.block _ (by omega) (by simp)).trans ((hg.block _ (by omega) (by simp)).trans (heap_alloc_new w _))
    · rw [mix_zero]
      rw [Nat.mul_one] at hown
      have h := (toList_madeCells_one (.slice none 0 0) n) ▸ hown
      rw [hsa, replicate_lst] at h
      exact own_kept0 h hal
    · rw [hsa] at hlt
      omega
  have HFF := Lib.hid HF
  have HII := Lib.hid HI0
  clear HF HI0 hown hg
  go_loopw [14] (fun i wr => ∃ k : Nat, k ≤ n ∧ i = .int .i64 k ∧ ∃ a c, MI w w1.heap.size wr n m (fun i => ccell ((List.range m).map (num i))) a c k) (fun i _ => n - (intOf i).toNat)
  case atStart => exact ⟨0, Nat.zero_le _, rfl, _, _, HII.out⟩
  case round =>
    obtain ⟨k, hk, rfl, a, c, hI⟩ := hrel
    by_cases hlt : k < n
    · have hbox := hI.box
      have hk0 : (0 : Int) ≤ k := by omega
      have hk1 : (k : Int) < n := by omega
      have hc0 := hI.outer.cellAt k (by omega)
      rw [lst_get _ _ _ (by omega)] at hc0
      have hf0 := hI.outer.frozenAt k
      have hal := World.grownBy_alloc wr (.cells (madeCells #[.complex .f32 0 0] m) 36) none
      have hOd := (own_kept0 hI.outer hal).drew
      have hc1 := hOd.cellAt k (by omega)
      rw [lst_get _ _ _ (by omega)] at hc1
      have hf1 := hOd.frozenAt k
      have hb1 : (wr.alloc (.cells (madeCells #[.complex .f32 0 0] m) 36)).drew.cell? ⟨w1.heap.size, 0, none⟩ = _ := hal.cell hbox (by simp)
      have hrow := World.ownsRow_lit (base := w1.heap.size + 1) (e := 36) (size := 1) wr (madeCells #[.complex .f32 0 0] m) m hI.sz (by unfold maxLen; omega) (by simp [madeCells])
      rw [toList_madeCells_one, replicate_lst] at hrow
      have HL := Lib.hid ((hI.lay hlt hal (Nat.le_refl _) hrow).drew)
      clear hal hOd hrow hI
      have hmk := make_row m hm
      go_wp2_with fail
      go_region_with (fail)
      clear hmk hc0 hf0 hc1 hf1 hb1 hbox
      all_goals
        generalize (fun q => if q = k then wr.heap.size else a q) = a2 at HL
        generalize (fun q => if q = k then m else c q) = c2 at HL
        go_wp2_with fail
        go_loopw [24] (fun q wi => ∃ j : Nat, j ≤ m ∧ q = .int .i64 j ∧ MI w w1.heap.size wi n m (fun r => if r = k then mix (ccell ((List.range m).map (num k))) (fun _ => .complex .f32 0 0) j else ccell ((List.range m).map (num r))) a2 c2 (k + 1)) (fun q _ => m - (intOf q).toNat)
        case atStart => exact ⟨0, Nat.zero_le _, rfl, HL.out.congr (fun r hr => by
          by_cases e : r = k
          · rw [if_pos e, if_pos e, mix_zero]
          · rw [if_neg e, if_neg e])⟩
        case round =>
          obtain ⟨j, hj, rfl, hI⟩ := hrel
          by_cases hjl : j < m
          · have hbox := hI.box
            have hj0 : (0 : Int) ≤ j := by omega
            have hj1 : (j : Int) < m := by omega
            have hc0 := hI.outer.cellAt k (by omega)
            rw [lst_get _ _ _ (by omega)] at hc0
            have hc0' : wr.cell? ⟨w.heap.size + 1, k, none⟩ = some (.slice (some ⟨a2 k, 0, none⟩) m (c2 k)) := by
              rw [hc0]; simp [mix, orow]
            have hrow := hI.rows k (by omega)
            have hr0 := hrow.cellAt j (by omega)
            rw [lst_get _ _ _ hjl] at hr0
            have hrf := hrow.frozenAt j
            have HI := Lib.hid hI
            have HC := Lib.hid (HFF.out k j)
            have hR := Lib.hid hrow
            clear hc0 hI hrow
            go_wp2_with fail
            go_region_with (first
              | (go_at_call 189
                 refine (HC.out _ hlt hjl).mono ?_
                 rintro e w5 ⟨rfl, hg5⟩
                 have hb5 := hg5.cell (show wr.drew.cell? _ = _ from hbox) (by simp)
                 have hc5 := hg5.cell (show wr.drew.cell? _ = _ from hc0') (by simp)
                 have hO5 := own_kept0 (World.ownsRow.drew hR.out) hg5
                 have hr5 := hO5.cellAt j (by omega)
                 rw [lst_get _ _ _ hjl] at hr5
                 have hf5 := hO5.frozenAt j
                 clear hO5))
            all_goals
              have hI5 := HI.out.drew.kept hg5
              have hrw := hI5.rows k (by omega)
              rw [if_pos rfl] at hrw
              obtain ⟨p1, q1⟩ := World.ownsRow.stored (show w5.ownsRow (w1.heap.size + 1) 36 1 (.slice (some ⟨a2 k, 0, none⟩) m (c2 k)) m _ from hrw) j (ccell ((List.range m).map (num k)) j)
              rw [mix_set _ _ _ _ hjl] at p1
              have hN := (hI5.put (Nat.lt_succ_self k) p1 q1).congr (f' := fun r => if r = k then mix (ccell ((List.range m).map (num k))) (fun _ => .complex .f32 0 0) (j + 1) else ccell ((List.range m).map (num r))) (fun r hr => by
                by_cases e : r = k
                · simp [e]
                · simp [e])
              rw [show ccell ((List.range m).map (num k)) j = .complex .f32 (num k j).1 (num k j).2 by simp [ccell, List.getD, hjl]] at hN
              have HN := Lib.hid hN
              clear hN p1 q1 hrw hI5 hr5 hf5 hc5 hb5 hr0 hrf hbox hc0' hg5 HI HC hR
              go_wp2_with fail
              go_roundw
              case rel => exact ⟨j + 1, by omega, by go_num, HN.out⟩
              case measure => simp [intOf]; omega
          · obtain rfl : j = m := by omega
            have HN := Lib.hid (hI.congr (f' := fun r => ccell ((List.range j).map (num r))) (fun r hr => by
              by_cases e : r = k
              · rw [if_pos e, mix_full, e]
              · rw [if_neg e]))
            clear hI
            go_wp2_with fail
            go_roundw
            case rel => exact ⟨k + 1, by omega, by go_num, _, _, HN.out⟩
            case measure => simp [intOf]; omega
    · obtain rfl : k = n := by omega
      have hbox := hI.box
      have hres := cell_of_row _ _ 0 _ _ _ hI.res
      have hrf := frozen_of_row _ _ 0 _ _ hI.res
      have HN := Lib.hid hI.fin
      clear hI
      go_wp2_with fail
      refine bodyPost_ret (v := .agg #[.slice (some ⟨w.heap.size + 1, 0, none⟩) k k]) (by simp [results, Try.results188, go_sem, hres]) rfl ?_
      exact ⟨_, _, rfl, ⟨_, _, (HN.out _).1⟩, (HN.out _).2⟩

end Go.Proofs.Ytabbfpjngbiohaa.mat
