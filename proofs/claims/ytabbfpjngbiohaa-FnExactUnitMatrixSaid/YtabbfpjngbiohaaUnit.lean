/- Unit matrices, by the program and the model. -/
import Derived.Test.YtabbfpjngbiohaaRows
import Derived.Test.YtabbfpjngbiohaaSlc
import Derived.Test.YtabbfpjngbiohaaSmall
import Derived.Test.YtabbfpjngbiohaaFloats
import Derived.Test.YtabbfpjngbiohaaRound
import Derived.Test.YtabbfpjngbiohaaValues
import Derived.Test.YtabbfpjngbiohaaConv
import Derived.Test.YtabbfpjngbiohaaFWalk
import Derived.Test.YtabbfpjngbiohaaFinWalk
import Derived.Test.YtabbfpjngbiohaaFloat2
import Derived.Test.YtabbfpjngbiohaaFloat3
import Derived.Test.YtabbfpjngbiohaaPhase
import Derived.Test.YtabbfpjngbiohaaSine
import Derived.Test.YtabbfpjngbiohaaPhasor
import Derived.Test.YtabbfpjngbiohaaListC
import Derived.Test.YtabbfpjngbiohaaListCC
import Derived.Test.YtabbfpjngbiohaaNest
import Derived.Test.YtabbfpjngbiohaaMat
import Derived.Test.YtabbfpjngbiohaaMatZ
import Derived.WalkKit
import Derived.ProofKit
import Derived.OpenShut
import Derived.ShutString
import Derived.ChangeOld
import Derived.Below
import Derived.Lib.Hide
import Derived.BigQuiet
import Derived.Deep.QuietTactic
import Derived.WalkLawsBesides
import Derived.Outline
import Derived.Deep.QuietTactic
import Derived.BigQuiet
import Derived.Deep.LoopGhost
import Derived.Deep.RegionHeld3
import Derived.Deep.RegionWith
import Derived.Deep.RegionLaw
import Derived.Laws.ComplexArith
import Derived.StillTailTactics
import Derived.RangeFuncBox
namespace Go.Proofs.Ytabbfpjngbiohaa.unit
open Go.ChangeShapes Go.WideShapes Go.ChangeAt Go.RowKit
open Go.ChangeMaps (open_string shut_string)
set_option linter.unusedVariables false
open Go Ieee Go.RowKit
open Go.Proofs.Ytabbfpjngbiohaa.slc Go.Proofs.Ytabbfpjngbiohaa.small Go.Proofs.Ytabbfpjngbiohaa.floats Go.Proofs.Ytabbfpjngbiohaa.listC Go.Proofs.Ytabbfpjngbiohaa.listCC Go.Proofs.Ytabbfpjngbiohaa.nest Go.Proofs.Ytabbfpjngbiohaa.mat Go.Proofs.Ytabbfpjngbiohaa.matZ

attribute [local go_sem] run_store_slice run_store_complex
/-- A number of a unit matrix. -/
def un (i j : Nat) : Nat × Nat := if i = j then (1065353216, 0) else (0, 0)
def ul (n i : Nat) : List (Nat × Nat) := (List.range n).map (un i)
theorem unit_fn (i j : Nat) (w : World) (hi : i ≤ 1000) (hj : j ≤ 1000) : Calls Try.prog 189 #[.int .i64 (i : Int), .int .i64 (j : Int)] w fun e w' => e = .returned (.complex .f32 (un i j).1 (un i j).2) ∧ w.grownBy w' none := by
  by_cases h : i = j
  · subst h
    rw [show un i i = (1065353216, 0) from if_pos rfl]
    go_enter Try.func189, Try.ntmps189
    go_wp2_with fail
    go_ret
    exact ⟨rfl, World.grownBy.refl _ _⟩
  · rw [show un i j = (0, 0) from if_neg h]
    have h' : ¬ (i : Int) = (j : Int) := by omega
    go_enter Try.func189, Try.ntmps189
    go_wp2_with fail
    go_ret
    exact ⟨rfl, World.grownBy.refl _ _⟩
theorem own_box {w w1 : World} {A : Option Addr} {d n m : Nat} {a c : Nat → Nat} {f : Nat → Nat → Value} {o : Obj} (ho : OwnN w1 (w.heap.size + 1) (.slice A n d) n m a c f) (hg : (w.alloc o).grownBy w1 none) (v : Value) :
    OwnN (w1.setCell ⟨w.heap.size, 0, none⟩ v) w.heap.size (.slice A n d) n m a c f ∧ w.grownBy (w1.setCell ⟨w.heap.size, 0, none⟩ v) none := by
  have q := grownBy_setCell' w1 w.heap.size v
  refine ⟨⟨own_mono (World.ownsRow.kept ho.outer q (.inr ?_)) (by omega), fun k hk => own_mono (World.ownsRow.kept (ho.rows k hk) q (.inr ?_)) (by omega), ho.apart, ho.other⟩, gb_new ((World.grownBy_alloc w o none).trans hg) q (by intro g e; injection e with e; omega)⟩
  · cases A with
    | none => simp [Value.ownBlock]
    | some ad =>
      have := own_base ho.outer ad.block rfl
      simp [Value.ownBlock]
      omega
  · have := own_base (ho.rows k hk) (a k) rfl
    simp [orow, Value.ownBlock]
    omega
theorem own_box' {w w1 : World} {A : Option Addr} {d n m : Nat} {a c : Nat → Nat} {f : Nat → Nat → Value} (ho : OwnN w1 (w.heap.size + 1) (.slice A n d) n m a c f) (hg : w.grownBy w1 none) (hs : w.heap.size < w1.heap.size) (v : Value) :
    OwnN (w1.setCell ⟨w.heap.size, 0, none⟩ v) w.heap.size (.slice A n d) n m a c f ∧ w.grownBy (w1.setCell ⟨w.heap.size, 0, none⟩ v) none := by
  have q := grownBy_setCell' w1 w.heap.size v
  refine ⟨⟨own_mono (World.ownsRow.kept ho.outer q (.inr ?_)) (by omega), fun k hk => own_mono (World.ownsRow.kept (ho.rows k hk) q (.inr ?_)) (by omega), ho.apart, ho.other⟩, gb_new hg q (by intro g e; injection e with e; omega)⟩
  · cases A with
    | none => simp [Value.ownBlock]
    | some ad =>
      have := own_base ho.outer ad.block rfl
      simp [Value.ownBlock]
      omega
  · have := own_base (ho.rows k hk) (a k) rfl
    simp [orow, Value.ownBlock]
    omega
theorem block1 {w w1 : World} {a : Obj} (hg : (w.alloc a).grownBy w1 none) : w1.heap[w.heap.size]? = some a := (hg.block _ (by simp) (by simp)).trans (heap_alloc_new w _)
set_option maxHeartbeats 400000 in
theorem unitOf_i (n : Nat) (w : World) (h1 : 1 ≤ n) (hn : n ≤ 8) :
    Calls Try.prog 136 #[.int .i64 n] w fun e w' => ∃ A d a c, e = .returned (.agg #[.slice A n d]) ∧ OwnN w' w.heap.size (.slice A n d) n n a c (fun i => ccell (ul n i)) ∧ w.grownBy w' none := by
  have HM := Lib.hid (fun w => matrix_i n n un w h1 (by omega) (by omega) (fun i j w hi hj => unit_fn i j w (by omega) (by omega)))
  go_enter Try.func136, Try.ntmps136
  go_wp2_with fail
  refine (HM.out _).mono ?_
  rintro e w1 ⟨A, d, a, c, rfl, ho, hg⟩
  have hb := block1 hg
  have hres := cell_of_row _ _ 0 _ _ _ hb
  have hrf := frozen_of_row _ _ 0 _ _ hb
  rw [show (w.alloc (.cells #[.slice none 0 0] 82)).heap.size = w.heap.size + 1 by simp] at ho
  have HB := Lib.hid (fun v => own_box ho hg v)
  clear ho hg hb HM
  go_wp2_with fail
  refine bodyPost_ret (v := .agg #[.slice A n d]) (by simp [results, Try.results136, go_sem, hres]) rfl ?_
  first | exact ⟨_, _, _, _, rfl, (HB.out _).1, (HB.out _).2⟩ | exact ⟨_, _, rfl, ⟨_, _, (HB.out _).1⟩, (HB.out _).2⟩

theorem lst_set (f g : Nat → Value) (n j : Nat) (v : Value) (hj : g j = v) (h : ∀ i, i ≠ j → g i = f i) : (lst f n).set j v = lst g n := by
  apply List.ext_getElem?
  intro i
  rw [List.getElem?_set]
  by_cases e : j = i
  · subst e
    by_cases hn : j < n
    · rw [if_pos rfl, if_pos (by rw [lst_len]; exact hn), lst_get _ _ _ hn, hj]
    · rw [if_pos rfl, if_neg (by rw [lst_len]; exact hn), List.getElem?_eq_none (by rw [lst_len]; omega)]
  · rw [if_neg e]
    by_cases hn : i < n
    · rw [lst_get _ _ _ hn, lst_get _ _ _ hn, h i (fun h => e h.symm)]
    · rw [List.getElem?_eq_none (by rw [lst_len]; omega), List.getElem?_eq_none (by rw [lst_len]; omega)]
theorem ul_at (n k j : Nat) (hj : j < n) : ccell (ul n k) j = .complex .f32 (un k j).1 (un k j).2 := by simp [ccell, ul, List.getD, hj]
theorem unit_row (n k : Nat) (hk : k < n) : (lst zr n).set k (.complex .f32 1065353216 0) = lst (ccell (ul n k)) n := by
  rw [lst_set zr (fun j => if j = k then .complex .f32 1065353216 0 else .complex .f32 0 0) n k _ (if_pos rfl) (fun i h => by rw [if_neg h]; rfl)]
  apply lst_congr
  intro j hj
  rw [ul_at n k j hj]
  unfold un
  by_cases e : j = k
  · rw [if_pos e, if_pos e.symm]
  · rw [if_neg e, if_neg (fun h => e h.symm)]
/-- Rows up to k are those of a unit matrix. -/
structure MU (W wr : World) (M : Nat) (A : Option Addr) (d n : Nat) (a c : Nat → Nat) (k : Nat) : Prop where
  own : OwnN wr (W.heap.size + 1) (.slice A n d) n n a c (mixN (fun i => ccell (ul n i)) (fun _ => zr) k)
  box : wr.cell? ⟨M, 0, none⟩ = some (.slice A n d)
  lo : ∀ i, i < n → a i < M
  res : wr.heap[W.heap.size]? = some (.cells #[.slice none 0 0] 82)
  gb : W.grownBy wr none
  sz : W.heap.size < M ∧ M < wr.heap.size
theorem MU.step {W wr w2 : World} {M d n k : Nat} {A : Option Addr} {a c : Nat → Nat} (h : MU W wr M A d n a c k) (hk : k < n) :
    MU W (wr.setCell ⟨a k, k, none⟩ (.complex .f32 1065353216 0)) M A d n a c (k + 1) := by
  have hr := h.own.rows k hk
  have hb := own_base hr (a k) rfl
  have hlo := h.lo k hk
  have hsz := h.sz
  rw [show mixN (fun i => ccell (ul n i)) (fun _ => zr) k k = zr by simp [mixN]] at hr
  obtain ⟨p1, q1⟩ := World.ownsRow.stored (show wr.ownsRow (W.heap.size + 1) 36 1 (.slice (some ⟨a k, 0, none⟩) n (c k)) n _ from hr) k (.complex .f32 1065353216 0)
  rw [unit_row n k hk] at p1
  refine ⟨?_, q1.cell h.box (show some M ≠ some (a k) by intro e; injection e with e; omega), h.lo, (q1.block _ (by omega) (by intro e; injection e with e; omega)).trans h.res, gb_new h.gb q1 (by intro g e; injection e with e; omega), hsz.1, Nat.lt_of_lt_of_le hsz.2 q1.size⟩
  rw [← mixN_succ]
  exact h.own.put hk p1 q1

set_option maxHeartbeats 800000 in
set_option maxRecDepth 100000 in
theorem unit_l (n : Nat) (w : World) (h1 : 1 ≤ n) (hn : n ≤ 8) :
    Calls Try.prog 135 #[.int .i64 n] w fun e w' => ∃ A d a c, e = .returned (.agg #[.slice A n d]) ∧ OwnN w' w.heap.size (.slice A n d) n n a c (fun i => ccell (ul n i)) ∧ w.grownBy w' none := by
  have HZ := Lib.hid (fun w => zero_s n n w h1 (by omega) (by omega))
  go_enter Try.func135, Try.ntmps135
  go_wp2_with fail
  refine (HZ.out _).mono ?_
  rintro e w1 ⟨A, d, a, c, rfl, ho, hg⟩
  rw [show (w.alloc (.cells #[.slice none 0 0] 82)).heap.size = w.heap.size + 1 by simp] at ho
  have hal := World.grownBy_alloc w1 (.cells #[.slice A n d] 82) none
  have hws : w.heap.size < w1.heap.size := by have := hg.size; simp at this; omega
  have HI := Lib.hid (show MU w (w1.alloc (.cells #[.slice A n d] 82)) w1.heap.size A d n a c 0 from
    ⟨by rw [mixN_zero]; exact ho.kept0 hal, cell_of_row _ _ 0 _ _ _ (heap_alloc_new w1 _), fun i hi => (own_base (ho.rows i hi) (a i) rfl).2, (hal.block _ hws (by simp)).trans (block1 hg), ((World.grownBy_alloc w _ none).trans hg).trans hal, hws, by simp⟩)
  clear ho hg HZ hal
  go_wp2_with fail
  go_loopw [11] (fun i wr => ∃ k : Nat, k ≤ n ∧ i = .int .i64 k ∧ MU w wr w1.heap.size A d n a c k) (fun i _ => n - (intOf i).toNat)
  case atStart => exact ⟨0, Nat.zero_le _, rfl, HI.out⟩
  case round =>
    obtain ⟨k, hk, rfl, hI⟩ := hrel
    have hbox := hI.box
    by_cases hlt : k < n
    · obtain ⟨ad, rfl, _, hc0⟩ := hI.own.rd.1.at_ hlt
      unfold orow at hc0
      have hr := hI.own.rows k hlt
      have hr0 := hr.cellAt k (by omega)
      rw [lst_get _ _ _ hlt] at hr0
      have hrf := hr.frozenAt k
      have hk0 : (0 : Int) ≤ k := by omega
      have hk1 : (k : Int) < n := by omega
      have HN := Lib.hid (hI.step (w2 := wr) hlt)
      clear hI hr
      go_wp2_with fail
      go_roundw
      case rel => exact ⟨k + 1, by omega, by go_num, HN.out⟩
      case measure => simp [intOf]; omega
    · obtain rfl : k = n := by omega
      have hres := cell_of_row _ _ 0 _ _ _ hI.res
      have hrf := frozen_of_row _ _ 0 _ _ hI.res
      have HB := Lib.hid (fun v => own_box' hI.own.mixed hI.gb (Nat.lt_trans hI.sz.1 hI.sz.2) v)
      clear hI
      go_wp2_with fail
      refine bodyPost_ret (v := .agg #[.slice A k d]) (by simp [results, Try.results135, go_sem, hres]) rfl ?_
      first | exact ⟨_, _, _, _, rfl, (HB.out _).1, (HB.out _).2⟩ | exact ⟨_, _, rfl, ⟨_, _, (HB.out _).1⟩, (HB.out _).2⟩

set_option maxHeartbeats 400000 in
theorem unit_i (n : Nat) (w : World) (h1 : 1 ≤ n) (hn : n ≤ 8) :
    Calls Try.prog 58 #[.int .i64 n] w fun e w' => ∃ A d a c, e = .returned (.tuple #[.agg #[.slice A n d], .bool true]) ∧ OwnN w' w.heap.size (.slice A n d) n n a c (fun i => ccell (ul n i)) ∧ w.grownBy w' none := by
  have HU := Lib.hid (fun w => unitOf_i n w h1 hn)
  have k1 : (1 : Int) ≤ n := by omega
  have k2 : (n : Int) ≤ 8 := by omega
  go_enter Try.func58, Try.ntmps58
  go_wp2_with fail
  refine (within_yes _ _ _ _ k1 k2).mono ?_
  rintro e w' ⟨rfl, rfl⟩
  go_wp2_with fail
  refine (HU.out _).mono ?_
  rintro e w1 ⟨A, d, a, c, rfl, ho, hg⟩
  have hb := block1 hg
  have hres := cell_of_row _ _ 0 _ _ _ hb
  have hrf := frozen_of_row _ _ 0 _ _ hb
  rw [show (w.alloc (.cells #[.slice none 0 0] 82)).heap.size = w.heap.size + 1 by simp] at ho
  have HB := Lib.hid (fun v => own_box ho hg v)
  clear ho hg hb HU
  go_wp2_with fail
  refine bodyPost_ret (v := .tuple #[.agg #[.slice A n d], .bool true]) (by simp [results, Try.results58, go_sem, hres]) rfl ?_
  first | exact ⟨_, _, _, _, rfl, (HB.out _).1, (HB.out _).2⟩ | exact ⟨_, _, rfl, ⟨_, _, (HB.out _).1⟩, (HB.out _).2⟩
theorem unit_i_no (n : Int) (w : World) (h : n < 1 ∨ 8 < n) :
    Calls Try.prog 58 #[.int .i64 n] w fun e w' => e = .returned (.tuple #[.agg #[.slice none 0 0], .bool false]) ∧ w.grownBy w' none := by
  have H := Lib.hid h
  clear h
  go_enter Try.func58, Try.ntmps58
  go_wp2_with fail
  refine (within_no _ _ _ _ H.out).mono ?_
  rintro e w' ⟨rfl, rfl⟩
  go_wp2_with fail
  exact bodyPost_ret (v := .tuple #[.agg #[.slice none 0 0], .bool false]) (by simp [results, Try.results58, go_sem]) rfl ⟨rfl, World.grownBy_alloc _ _ _⟩
set_option maxHeartbeats 400000 in
theorem unit_s (n : Nat) (w : World) (h1 : 1 ≤ n) (hn : n ≤ 8) :
    Calls Try.prog 57 #[.int .i64 n] w fun e w' => ∃ A d a c, e = .returned (.tuple #[.agg #[.slice A n d], .bool true]) ∧ OwnN w' w.heap.size (.slice A n d) n n a c (fun i => ccell (ul n i)) ∧ w.grownBy w' none := by
  have HU := Lib.hid (fun w => unit_l n w h1 hn)
  have k1 : (1 : Int) ≤ n := by omega
  have k2 : (n : Int) ≤ 8 := by omega
  go_enter Try.func57, Try.ntmps57
  go_wp2_with fail
  refine (in_yes _ _ _ _ k1 k2).mono ?_
  rintro e w' ⟨rfl, rfl⟩
  go_wp2_with fail
  refine (HU.out _).mono ?_
  rintro e w1 ⟨A, d, a, c, rfl, ho, hg⟩
  have hb := block1 hg
  have hres := cell_of_row _ _ 0 _ _ _ hb
  have hrf := frozen_of_row _ _ 0 _ _ hb
  rw [show (w.alloc (.cells #[.slice none 0 0] 82)).heap.size = w.heap.size + 1 by simp] at ho
  have HB := Lib.hid (fun v => own_box ho hg v)
  clear ho hg hb HU
  go_wp2_with fail
  refine bodyPost_ret (v := .tuple #[.agg #[.slice A n d], .bool true]) (by simp [results, Try.results57, go_sem, hres]) rfl ?_
  first | exact ⟨_, _, _, _, rfl, (HB.out _).1, (HB.out _).2⟩ | exact ⟨_, _, rfl, ⟨_, _, (HB.out _).1⟩, (HB.out _).2⟩
theorem unit_s_no (n : Int) (w : World) (h : n < 1 ∨ 8 < n) :
    Calls Try.prog 57 #[.int .i64 n] w fun e w' => e = .returned (.tuple #[.agg #[.slice none 0 0], .bool false]) ∧ w.grownBy w' none := by
  have H := Lib.hid h
  clear h
  go_enter Try.func57, Try.ntmps57
  go_wp2_with fail
  refine (in_no _ _ _ _ H.out).mono ?_
  rintro e w' ⟨rfl, rfl⟩
  go_wp2_with fail
  exact bodyPost_ret (v := .tuple #[.agg #[.slice none 0 0], .bool false]) (by simp [results, Try.results57, go_sem]) rfl ⟨rfl, World.grownBy_alloc _ _ _⟩

theorem eq_mat (O O' : Option Addr) (n m d d' B : Nat) (a c a' c' : Nat → Nat) (l l' : Nat → List (Nat × Nat)) (w : World) (hn : n ≤ 9223372036854775807) (hm : m ≤ 9223372036854775807) (hB : B ≤ w.heap.size) (hl : ∀ k, k < n → (l k).length = m) (hs : ∀ k, k < n → SameL (l k) (l' k))
    (ha : RdN w B O n m a c (fun k => ccell (l k))) (hb : RdN w B O' n m a' c' (fun k => ccell (l' k))) :
    Calls Try.prog 59 #[.agg #[.slice O n d], .agg #[.slice O' n d']] w fun e w' => e = .returned (.bool true) ∧ w.grownBy w' none := by
  have H := Lib.hid (fun (w2 : World) (g : w.grownBy w2 none) => eqN O O' n m d d' B a c a' c' l l' w2 hn hm (Nat.le_trans hB g.size) hl hs (ha.kept0 g hB) (hb.kept0 g hB))
  clear ha hb hl hs
  go_enter Try.func59, Try.ntmps59
  go_wp2_with fail
  have hg := (World.grownBy_alloc w (.cells #[.slice O n d] 82) none).trans (World.grownBy_alloc (w.alloc (.cells #[.slice O n d] 82)) (.cells #[.slice O' n d'] 82) none)
  refine (H.out _ hg).mono ?_
  rintro e w1 ⟨rfl, hg1⟩
  have HG := Lib.hid (hg.trans hg1)
  clear hg hg1
  go_wp2_with fail
  go_ret
  exact ⟨rfl, HG.out⟩
theorem mark_mat (O : Option Addr) (n m d base s : Nat) (a c : Nat → Nat) (f : Nat → Nat → Value) (w : World) (hm0 : 1 ≤ m) (hn : n ≤ 65536) (hm : mk s m n ≤ 1048576) (ho : OwnN w base (.slice O n d) n m a c f) :
    Calls Try.prog 60 #[.agg #[.slice O n d], .int .i64 s] w fun en w' => en = .returned (.int .i64 (mk s m n : Nat)) ∧ OwnN w' base (.slice O n d) n m a c (fun k => mkc (mk s m k)) ∧ OnlyRows n a w w' := by
  have hg := World.grownBy_alloc w (.cells #[.slice O n d] 82) none
  have H := Lib.hid (markN O n m d base s a c f _ hm0 hn hm (ho.kept0 hg))
  have HB := Lib.hid hg
  clear ho hg
  go_enter Try.func60, Try.ntmps60
  go_wp2_with fail
  refine H.out.mono ?_
  rintro e w1 ⟨rfl, ho, hb1⟩
  have HO := Lib.hid ho
  have HB1 := Lib.hid hb1
  clear ho hb1
  go_wp2_with fail
  go_ret
  exact ⟨rfl, HO.out, HB1.out.after HB.out⟩
theorem held_mat (O : Option Addr) (n m d B s : Nat) (a c : Nat → Nat) (w : World) (hm0 : 1 ≤ m) (hn : n ≤ 65536) (hm : mk s m n ≤ 1048576) (hB : B ≤ w.heap.size) (ha : RdN w B O n m a c (fun k => mkc (mk s m k))) :
    Calls Try.prog 61 #[.agg #[.slice O n d], .int .i64 s] w fun en w' => en = .returned (.int .i64 (mk s m n : Nat)) ∧ w.grownBy w' none := by
  have hg := World.grownBy_alloc w (.cells #[.slice O n d] 82) none
  have H := Lib.hid (heldN O n m d B s a c _ hm0 hn hm (ha.kept0 hg hB))
  have HG := Lib.hid hg
  clear ha hg
  go_enter Try.func61, Try.ntmps61
  go_wp2_with fail
  refine H.out.mono ?_
  rintro e w1 ⟨rfl, rfl⟩
  go_wp2_with fail
  go_ret
  exact ⟨rfl, HG.out⟩

end Go.Proofs.Ytabbfpjngbiohaa.unit
