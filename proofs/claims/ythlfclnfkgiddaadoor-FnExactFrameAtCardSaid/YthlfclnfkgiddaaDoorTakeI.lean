/- A frame of its bytes, by the program. -/
import Derived.Test.YthlfclnfkgiddaaDoorRows
import Derived.Test.YthlfclnfkgiddaaDoorSlc
import Derived.Test.YthlfclnfkgiddaaDoorSmall
import Derived.Test.YthlfclnfkgiddaaDoorWordN
import Derived.Test.YthlfclnfkgiddaaDoorNumN
import Derived.Test.YthlfclnfkgiddaaDoorTakeN
import Derived.Test.YthlfclnfkgiddaaDoorWordS
import Derived.Test.YthlfclnfkgiddaaDoorWordI
import Derived.Test.YthlfclnfkgiddaaDoorFloats
import Derived.Test.YthlfclnfkgiddaaDoorRound
import Derived.Test.YthlfclnfkgiddaaDoorValues
import Derived.Test.YthlfclnfkgiddaaDoorConv
import Derived.Test.YthlfclnfkgiddaaDoorFWalk
import Derived.Test.YthlfclnfkgiddaaDoorBits
import Derived.Test.YthlfclnfkgiddaaDoorPhase
import Derived.Test.YthlfclnfkgiddaaDoorSine
import Derived.Test.YthlfclnfkgiddaaDoorPhasor
import Derived.Test.YthlfclnfkgiddaaDoorFinWalk
import Derived.Test.YthlfclnfkgiddaaDoorFloat2
import Derived.Test.YthlfclnfkgiddaaDoorFloat3
import Derived.Test.YthlfclnfkgiddaaDoorListC
import Derived.Test.YthlfclnfkgiddaaDoorFrameS
import Derived.Test.YthlfclnfkgiddaaDoorFrameM
import Derived.Test.YthlfclnfkgiddaaDoorCheckC
import Derived.Test.YthlfclnfkgiddaaDoorStoreI
import Derived.Test.YthlfclnfkgiddaaDoorChunkS
import Derived.WalkKit
import Derived.ProofKit
import Derived.OpenShut
import Derived.ShutString
import Derived.ChangeOld
import Derived.Below
import Derived.Lib.Hide
import Derived.BigQuiet
import Derived.Deep.QuietTactic
import Derived.WalkLawsBesides
import Derived.Outline
import Derived.RangeFuncNested
import Derived.RangeFuncKeeps
import Derived.RangeFuncLeaves
import Derived.RangeFuncCalls
import Derived.Shelf.Abstract
import Derived.Shelf.RegionOpen
import Derived.TacticsIn
import Derived.RegionIn
import Derived.OwnWalkIn
import Derived.TacticsInMore
import Derived.LoopNIn
import Derived.LoopIn
import Derived.RangeFuncBox
import Derived.Deep.QuietTactic
import Derived.BigQuiet
import Derived.Deep.LoopGhost
import Derived.Deep.RegionHeld3
import Derived.Deep.RegionWith
import Derived.Laws.ComplexArith
import Derived.StillTailTactics
import Derived.Maps.AppendAt
namespace Go.Proofs.YthlfclnfkgiddaaDoor.takeI
open Go.ChangeShapes Go.WideShapes Go.ChangeAt Go.RowKit
open Go.ChangeMaps (open_string shut_string)
set_option linter.unusedVariables false
open Go Ieee Go.RowKit Go.Shelf
open Go.Proofs.YthlfclnfkgiddaaDoor.slc Go.Proofs.YthlfclnfkgiddaaDoor.small Go.Proofs.YthlfclnfkgiddaaDoor.wordN Go.Proofs.YthlfclnfkgiddaaDoor.numN Go.Proofs.YthlfclnfkgiddaaDoor.takeN Go.Proofs.YthlfclnfkgiddaaDoor.storeI Go.Proofs.YthlfclnfkgiddaaDoor.phase Go.Proofs.YthlfclnfkgiddaaDoor.phasor Go.Proofs.YthlfclnfkgiddaaDoor.wordS Go.Proofs.YthlfclnfkgiddaaDoor.wordI Go.Proofs.YthlfclnfkgiddaaDoor.listC Go.Proofs.YthlfclnfkgiddaaDoor.frameM Go.Proofs.YthlfclnfkgiddaaDoor.chunkS

attribute [local go_sem] Oper.semAt_some
section
attribute [local go_sem] Go.Proofs.YthlfclnfkgiddaaDoor.fWalk.c_f32from
theorem from_i (n : Nat) (w : World) (h1 : n < 4294967296) :
    Calls Tryd.prog 146 #[.int .i64 (n : Int)] w fun e w' => e = .returned (.tuple #[.float .f32 n, .bool true]) ∧ w = w' := by
  have h0 : (0 : Int) ≤ (n : Int) := by omega
  have h2 : (n : Int) ≤ 4294967295 := by omega
  go_enter Tryd.func146, Tryd.ntmps146
  go_wp2
  go_ret2
  exact ⟨by simp, rfl⟩
end
/-- The bytes of a text, in a block of the call's own. -/
theorem to8 (T : ByteArray) (w : World) : ∃ c wb, (convert 9 22 (.string T)).run Tryd.prog w = .ok (.slice (some ⟨w.heap.size, 0, none⟩) T.size c) wb ∧ T.size ≤ c ∧ w.grownBy wb none ∧ wb.heap.size = w.heap.size + 1 ∧ ∀ j, j < T.size → wb.cell? ⟨w.heap.size, j, none⟩ = some (.int .u8 ((T.data.toList.getD j 0).toNat : Int)) := by
  have h := run_bytes_of_string (P := Tryd.prog) w 9 22 5 T Tryd.underlying9 Tryd.underlying22 Tryd.underlying5
  refine ⟨_, _, h, ?_, ?_, ?_, ?_⟩
  · exact grownCap_ge _ _ _ _
  · exact (gb_drewN w 1 none).trans (World.grownBy_alloc _ _ _)
  · simp
  · intro j hj
    have hb : (bytesRow T (grownCap w T.size 0 5))[j]? = some (.int .u8 ((T.data.toList.getD j 0).toNat : Int)) := by
      unfold bytesRow
      have hj' : j < T.data.size := hj
      rw [Array.getElem?_append_left (by simpa using hj')]
      simp [List.getD, Array.getElem?_eq_getElem hj']
    rw [← hb]
    exact cell_of_row _ _ j _ _ _ (heap_alloc_new w.drew (.cells (bytesRow T (grownCap w T.size 0 5)) 5 ((bytesRow T (grownCap w T.size 0 5)).size, (bytesRow T (grownCap w T.size 0 5)).size + 1)))
theorem kd2_t (D1 D2 : Nat) {A B C : World} (h : KD2 D1 D2 A B) (k : KD2 D1 D2 B C) : KD2 D1 D2 A C := fun b v hb e => k b v hb (h b v hb e)
theorem kd2_b (D1 D2 : Nat) (w : World) (h1 : D1 < w.heap.size) (h2 : D2 < w.heap.size) (W : World) (l : Nat) (o o' : Obj) (hl : w.heap.size ≤ l) (_ : W.heap[l]? = some o) (_ : o.isCells = false) (_ : o.isWalk = false) : KD2 D1 D2 W (W.putObj l o') :=
  fun b v hb e => (grownBy_putObj' W l o').cell e (by intro h; injection h with h; dsimp only at h; rcases hb with rfl | rfl <;> omega)
theorem word_at (w : World) (ad : Addr) (c : Nat) : (Instr.arrayAt 142 (.slice (some ad) 4 c)).run Tryd.prog w = .ok (.pointer (some ad)) w := by
  have hu := Tryd.underlying142
  simp [Instr.arrayAt, run_underlying hu]
theorem res_put {w : World} {r : Nat} {i v : Value} (h : Fk w r i v) (i' v' : Value) : (((w.setCell ⟨r, 0, none⟩ i').setCell ⟨r, 1, none⟩ v').cell? ⟨r, 0, none⟩ = some i' ∧ ((w.setCell ⟨r, 0, none⟩ i').setCell ⟨r, 1, none⟩ v').cell? ⟨r, 1, none⟩ = some v') ∧ w.grownBy ((w.setCell ⟨r, 0, none⟩ i').setCell ⟨r, 1, none⟩ v') (some r) := by
  obtain ⟨P1, p1⟩ := h.put1 i'
  obtain ⟨P2, p2⟩ := P1.put2 v'
  exact ⟨⟨P2.cells.1, P2.cells.2.1⟩, p1.trans p2⟩
theorem row_base {w : World} {b b' : Nat} {e : TypeId} {size n c : Nat} {A : Option Addr} {xs : List Value} (h : w.ownsRow b e size (.slice A n c) n xs) (hb : b' ≤ b) : w.ownsRow b' e size (.slice A n c) n xs := by
  refine ⟨h.1, ?_⟩
  rcases h.2 with ⟨h1, h2⟩ | ⟨g, cap, cur, h1, h2, h3⟩
  · exact .inl ⟨h1, h2⟩
  · exact .inr ⟨g, cap, cur, h1, Nat.le_trans hb h2, h3⟩
theorem gb_row {W W' : World} {x : Option Nat} (h : W.grownBy W' none) : W.grownBy W' x := ⟨h.os, h.tape, h.output, h.size, fun i hi _ => h.block i hi (by simp)⟩
theorem run_store_slice {P : Program} {w : World} {m : Mode} (a : Addr) (x : Option Addr) (n c : Nat) : (store a (.slice x n c) m).run P w = stored P w a (.slice x n c) m := run_store P w a _ m rfl
attribute [local go_sem] run_store_slice
theorem keeps_own {W W' : World} {base B : Nat} {e : TypeId} {size : Nat} {v : Value} {k : Nat} {xs : List Value} (h : W.ownsRow base e size v k xs) (hg : W.grownBy W' v.ownBlock) : KeepsFrom B W W' := by
  refine ⟨hg.size, fun i o _ hi ho => (hg.block i (Array.getElem?_eq_some_iff.1 hi).1 (fun e => ?_)).trans hi⟩
  rcases h.2 with ⟨rfl, _⟩ | ⟨g, cap, cur, rfl, _, hgb, _⟩
  · cases e
  · obtain rfl : i = g := by simpa [Value.ownBlock] using e
    rw [hgb] at hi
    cases hi
    cases ho
theorem own_gb {α : Type} (w : World) (x : Option Nat) (B : Nat) (hB : w.heap.size ≤ B) : OwnFrom B (fun (_ : List α) W => w.grownBy W x) := fun _ _ _ _ hs hg hr => gb_new2 hs hg (fun g e => Nat.le_trans hB (hr g e).1)
/-- The cells of the numbers of parts. -/
def pn (L : List UInt8) (q : Nat) (pre : List (Fin q)) : List Value := n64 (pre.map fun i => n4 L (4 * i.1))
theorem fin1 {wc W wl w6 : World} {B r1 D1 D2 k c c6 : Nat} {e t : TypeId} {A A6 : Option Addr} {l0 l1 : List Value} {u : Value} (x : Value)
    (hv : Boxed w6 r1 t u) (z1 : w6.ownsRow B e 1 (.slice A6 (k + 1) c6) (k + 1) l1) (z2 : wl.grownBy w6 (Value.slice A k c).ownBlock) (g : W.grownBy wl none) (hown : wl.ownsRow B e 1 (.slice A k c) k l0)
    (hB : wc.grownBy W (some r1)) (hs : wc.heap.size = B) (h1 : r1 < B) (d1 : D1 ≠ r1 ∧ D1 < B) (d2 : D2 ≠ r1 ∧ D2 < B) :
    KeepsFrom B W (w6.setCell ⟨r1, 0, none⟩ x) ∧ KD2 D1 D2 W (w6.setCell ⟨r1, 0, none⟩ x) ∧ Boxed (w6.setCell ⟨r1, 0, none⟩ x) r1 t x ∧ (w6.setCell ⟨r1, 0, none⟩ x).ownsRow B e 1 (.slice A6 (k + 1) c6) (k + 1) l1 ∧ wc.grownBy (w6.setCell ⟨r1, 0, none⟩ x) (some r1) := by
  have gs : w6.grownBy (w6.setCell ⟨r1, 0, none⟩ x) (some r1) := grownBy_setCell' w6 r1 x
  have hb := own_base hown
  have hb6 := own_base z1
  have ob : ∀ b, (Value.slice A k c).ownBlock = some b → B ≤ b := fun b e => by rw [own_blk] at e; exact (hb b e).1
  refine ⟨(KeepsFrom.of_grownBy g (by simp)).trans ((keeps_own hown z2).trans (KeepsFrom.of_grownBy gs (fun j e => by cases e; exact h1))), ?_, hv.set x, ?_, ?_⟩
  · intro b v hbd he
    have h3 : b ≠ r1 ∧ b < B := by rcases hbd with rfl | rfl <;> assumption
    exact gs.cell (z2.cell (g.cell he (by simp)) (fun e => by have := ob b e.symm; omega)) (fun e => h3.1 (by injection e))
  · exact World.ownsRow.kept z1 gs (.inr (fun e => by rw [own_blk] at e; have := (hb6 _ e).1; omega))
  · exact (gb_new2 (hB.trans (gb_row g)) z2 (fun b e => by have := ob b e; omega)).trans gs
theorem add0 (g i : Nat) : (⟨g, 0, none⟩ : Addr).add i = ⟨g, i, none⟩ := by unfold Addr.add; split <;> simp_all
theorem pn_all (L : List UInt8) (q : Nat) (xs : List (Fin q)) (h : xs.map Fin.val = List.range q) : pn L q xs = n64 (nq L q) := by
  unfold pn nq
  rw [← h, List.map_map]
  rfl
/-- The cells of a part of the bytes. -/
theorem part4 {w : World} {b M : Nat} {L : List UInt8} (h : ∀ j, j < M → w.cell? ⟨b, j, none⟩ = some (.int .u8 (at8 L j : Nat))) (i : Nat) (hi : 4 * i + 4 ≤ M) :
    ∃ p b0 b1 b2 b3 : Nat, 4 * i = p ∧ b0 < 256 ∧ b1 < 256 ∧ b2 < 256 ∧ b3 < 256 ∧ w.cell? ⟨b, p, none⟩ = some (.int .u8 (b0 : Int)) ∧ w.cell? ⟨b, p + 1, none⟩ = some (.int .u8 (b1 : Int)) ∧ w.cell? ⟨b, p + 2, none⟩ = some (.int .u8 (b2 : Int)) ∧ w.cell? ⟨b, p + 3, none⟩ = some (.int .u8 (b3 : Int)) ∧ b0 + b1 * 256 + b2 * 65536 + b3 * 16777216 = n4 L (4 * i) :=
  ⟨4 * i, at8 L (4 * i), at8 L (4 * i + 1), at8 L (4 * i + 2), at8 L (4 * i + 3), rfl, at8_lt _ _, at8_lt _ _, at8_lt _ _, at8_lt _ _, h _ (by omega), h _ (by omega), h _ (by omega), h _ (by omega), (n4_is L (4 * i)).symm⟩
/-- The numbers of pairs of parts. -/
def pr (L : List UInt8) (n : Nat) (pre : List (Fin n)) : List (Nat × Nat) := pre.map fun i => (n4 L (4 + 8 * i.1), n4 L (8 + 8 * i.1))
theorem pr_len (L : List UInt8) (n : Nat) (pre : List (Fin n)) : (pr L n pre).length = pre.length := by simp [pr]
theorem pr_snoc (L : List UInt8) (n : Nat) (pre : List (Fin n)) (i : Fin n) : pr L n (pre ++ [i]) = pr L n pre ++ [(n4 L (4 + 8 * i.1), n4 L (8 + 8 * i.1))] := by simp [pr]
theorem pr_all (L : List UInt8) (n : Nat) (xs : List (Fin n)) (h : xs.map Fin.val = List.range n) : pr L n xs = tk L 0 n := by
  unfold pr tk
  rw [← h, List.map_map]
  apply List.map_congr_left
  intro i _
  simp
/-- A frame in the block Q, whose numbers lie in a row of their own. -/
def FQ (Q B : Nat) (idx : Nat) (xs : List (Nat × Nat)) (W : World) : Prop := ∃ A c, Fk W Q (.int .i64 (idx : Int)) (.slice A xs.length c) ∧ W.ownsRow B 110 1 (.slice A xs.length c) xs.length (lst (ccell xs) xs.length)
theorem fq_own {α : Type} (Q B C idx : Nat) (f : α → List (Nat × Nat)) (hQ : Q < C) : OwnFrom C (fun s W => FQ Q B idx (f s) W) := by
  intro s X Y row ⟨A, c, h1, h2⟩ hg hr
  refine ⟨A, c, h1.keep hg (fun e => by have := (hr Q e).1; omega), h2.kept hg ?_⟩
  rcases h2.2 with ⟨h, _⟩ | ⟨g, cap, cur, h, _, hgb, _⟩
  · rw [h]; exact .inl rfl
  · refine .inr fun e' => ?_
    rw [h] at e'
    obtain ⟨o, ho, hc⟩ := (hr g (by simpa [Value.ownBlock] using e'.symm)).2
    rw [hgb] at ho; cases ho; cases hc
theorem appC {base c : Nat} {W : World} {A : Option Addr} {xs : List (Nat × Nat)} (x y : Nat) (hown : W.ownsRow base 110 1 (.slice A xs.length c) xs.length (lst (ccell xs) xs.length)) (hn : xs.length < 1000) (hb : base ≤ W.heap.size) :
    ∃ A6 c6 w6, (appS #[27, 27] 27 #[.slice A xs.length c, .slice (some ⟨W.heap.size, 0, none⟩) 1 1]).run Tryd.prog (W.alloc (.cells #[.complex .f32 x y] 110)) = .ok (.slice A6 (xs.length + 1) c6) w6 ∧
      w6.ownsRow base 110 1 (.slice A6 (xs.length + 1) c6) (xs.length + 1) (lst (ccell (xs ++ [(x, y)])) (xs ++ [(x, y)]).length) ∧ (W.alloc (.cells #[.complex .f32 x y] 110)).grownBy w6 (Value.slice A xs.length c).ownBlock := by
  obtain ⟨i0, hi0, hz0, hz1, hz2⟩ := info_parts infoC
  obtain ⟨v6, w6, hrun, r1, r2, _⟩ := run_append_own (P := Tryd.prog) (W.alloc (.cells #[.complex .f32 x y] 110)) base 27 27 110 i0 (.complex .f32 0 0) 1 8 Tryd.underlying27 hi0 hz0 hz1 hz2 rfl (by decide) _ _ _ (hown.alloc _) ⟨W.heap.size, 0, none⟩ 1 1 [.complex .f32 x y] rfl (World.news_of_block (cs := #[.complex .f32 x y]) (t := 110) (fr := (0, 0)) (heap_alloc_new W _)) (by intro u hu; simp at hu; subst hu; rfl) (by unfold maxLen; omega) (by omega) (by simp; omega)
  obtain ⟨A6, c6, rfl⟩ := row_slice r1
  rw [← Go.Proofs.YthlfclnfkgiddaaDoor.frameM.ccell_snoc] at r1
  exact ⟨A6, c6, w6, hrun, r1, r2⟩
theorem fin2 {wd W w6 : World} {B Q D1 D2 c c6 idx x y : Nat} {A A6 : Option Addr} {xs : List (Nat × Nat)}
    (hf : Fk W Q (.int .i64 (idx : Int)) (.slice A xs.length c)) (hown : W.ownsRow B 110 1 (.slice A xs.length c) xs.length (lst (ccell xs) xs.length))
    (z1 : w6.ownsRow B 110 1 (.slice A6 (xs.length + 1) c6) (xs.length + 1) (lst (ccell (xs ++ [(x, y)])) (xs ++ [(x, y)]).length)) (z2 : (W.alloc (.cells #[.complex .f32 x y] 110)).grownBy w6 (Value.slice A xs.length c).ownBlock)
    (hB : wd.grownBy W (some Q)) (hs : wd.heap.size = B) (h1 : Q < B) (d1 : D1 ≠ Q ∧ D1 < B) (d2 : D2 ≠ Q ∧ D2 < B) :
    (w6.cell? ⟨Q, 1, none⟩ = some (.slice A xs.length c) ∧ w6.frozen? ⟨Q, 1, none⟩ = false) ∧ KeepsFrom B W (w6.setCell ⟨Q, 1, none⟩ (.slice A6 (xs.length + 1) c6)) ∧ KD2 D1 D2 W (w6.setCell ⟨Q, 1, none⟩ (.slice A6 (xs.length + 1) c6)) ∧ FQ Q B idx (xs ++ [(x, y)]) (w6.setCell ⟨Q, 1, none⟩ (.slice A6 (xs.length + 1) c6)) ∧ wd.grownBy (w6.setCell ⟨Q, 1, none⟩ (.slice A6 (xs.length + 1) c6)) (some Q) := by
  have g := World.grownBy_alloc W (.cells #[.complex .f32 x y] 110) none
  have hb := own_base hown
  have hb6 := own_base z1
  have ob : ∀ b, (Value.slice A xs.length c).ownBlock = some b → B ≤ b := fun b e => by rw [own_blk] at e; exact (hb b e).1
  have f6 := (hf.keep g (by simp)).keep z2 (fun e => by have := ob Q e; omega)
  obtain ⟨fs, gs⟩ := f6.put2 (.slice A6 (xs.length + 1) c6)
  have hl : (xs ++ [(x, y)]).length = xs.length + 1 := by simp
  refine ⟨⟨f6.cells.2.1, f6.cells.2.2.2⟩, (KeepsFrom.of_grownBy g (by simp)).trans ((keeps_own (own_kept0 hown g) z2).trans (KeepsFrom.of_grownBy gs (fun j e => by cases e; exact h1))), ?_, ⟨A6, c6, by rw [hl]; exact fs, ?_⟩, ?_⟩
  · intro b v hbd he
    have h3 : b ≠ Q ∧ b < B := by rcases hbd with rfl | rfl <;> assumption
    exact gs.cell (z2.cell (g.cell he (by simp)) (fun e => by have := ob b e.symm; omega)) (fun e => h3.1 (by injection e))
  · rw [hl] at z1 ⊢
    exact World.ownsRow.kept z1 gs (.inr (fun e => by rw [own_blk] at e; have := (hb6 _ e).1; omega))
  · exact (gb_new2 (hB.trans (gb_row g)) z2 (fun b e => by have := ob b e; omega)).trans gs
attribute [local go_sem ↓] app_stop
attribute [local go_sem] run_store_complex
set_option maxRecDepth 100000 in
set_option maxHeartbeats 1000000 in
theorem take_i (S : ByteArray) (n : Nat) (w : World) (h1 : 1 ≤ n) (h2 : n ≤ 16) (hs : S.size = 8 * n + 6) :
    Calls Tryd.prog 117 #[.string S] w fun e w' => (∃ A c, e = .returned (.agg #[.int .i64 (n4 S.data.toList 0 : Nat), .slice A n c]) ∧ w'.ownsRow w.heap.size 110 1 (.slice A n c) n (lst (ccell (tk S.data.toList 0 n)) n)) ∧ w.grownBy w' none := by
  obtain ⟨i0, hi0, hz0, hz1, hz2⟩ := info_parts Go.Proofs.YthlfclnfkgiddaaDoor.storeI.info64
  obtain ⟨M, hM⟩ : ∃ M, 8 * n + 4 = M := ⟨_, rfl⟩
  have hsM : S.size = M + 2 := by omega
  have hm : wrap64 (M : Int) = (M : Int) := by unfold wrap64; omega
  have hb : M ≤ S.size := by omega
  have hb2 : (M : Int) ≤ (M : Int) + 2 := by omega
  have hTs : (S.extract 0 M).size = M := by rw [ByteArray.size_extract]; omega
  have hTl : (S.extract 0 M).data.toList = S.data.toList.take M := by rw [Lib.extract_data]; simp
  have gA := (World.grownBy_alloc w (.cells #[.int .i64 0, .slice none 0 0] 51) none).trans (World.grownBy_alloc (w.alloc (.cells #[.int .i64 0, .slice none 0 0] 51)) (.cells #[.slice none 0 0] 57) none)
  have fR := (Fk.new w (.int .i64 0) (.slice none 0 0)).keep (World.grownBy_alloc (w.alloc (.cells #[.int .i64 0, .slice none 0 0] 51)) (.cells #[.slice none 0 0] 57) none) (by simp)
  have bN := Boxed.new (w.alloc (.cells #[.int .i64 0, .slice none 0 0] 51)) 57 (.slice none 0 0)
  obtain ⟨c0, wb, hcv, hc0, gB, hwb, hcell⟩ := to8 (S.extract 0 M) ((w.alloc (.cells #[.int .i64 0, .slice none 0 0] 51)).alloc (.cells #[.slice none 0 0] 57))
  rw [hTs] at hcv hc0 hcell
  rw [hTl] at hcell
  simp only [World.size_alloc] at hcv hwb hcell bN
  have hcell' : ∀ j, j < M → wb.cell? ⟨w.heap.size + 1 + 1, j, none⟩ = some (.int .u8 (at8 S.data.toList j : Nat)) := fun j hj => by
    rw [hcell j hj, ← at8_take S.data.toList hj]
    rfl
  clear hcell
  have gW := gA.trans gB
  have fR := fR.keep gB (by simp)
  have bN := bN.kept gB (by simp)
  refine (callsIn_wide (n := 5)).1 ?_
  refine callsIn_of_wp_marks Tryd.func117 rfl trivial ?_ rfl
  simp only [Tryd.ntmps117, List.size_toArray, List.length_cons, List.length_nil, Nat.reduceAdd, Nat.reduceSub, Array.replicate_succ, Array.replicate_zero, List.push_toArray, List.append_toArray, List.nil_append, List.cons_append]
  have hmx : Tryd.prog.follows .mixedOrders = true := by kernel_rfl
  have HF := Lib.hid fR
  have HB := Lib.hid bN
  have HG := Lib.hid gW
  have HC := Lib.hid hcell'
  have HS := Lib.hid hs
  have HM := Lib.hid hM
  clear hs hM fR bN gW gA gB hcell'
  gi_wp2
  refine ⟨trivial, (callsIn_wide.2 (chunk_c8 _ _ _ 4 _ (by omega))).mono ?_⟩
  rintro e w' ⟨rfl, rfl⟩
  gi_wp2
  clear hcv
  generalize hr : w.heap.size = r at *
  have d1 := (Boxed.new wb 22 (.slice (some ⟨r + 1 + 1, 0, none⟩) M c0)).alloc (.cells #[.int .i64 4] 3)
  have d2 := Boxed.new (wb.alloc (.cells #[.slice (some ⟨r + 1 + 1, 0, none⟩) M c0] 22)) 3 (.int .i64 4)
  rw [World.size_alloc, hwb] at d2
  rw [hwb] at d1
  have gC := (World.grownBy_alloc wb (.cells #[.slice (some ⟨r + 1 + 1, 0, none⟩) M c0] 22) none).trans (World.grownBy_alloc (wb.alloc (.cells #[.slice (some ⟨r + 1 + 1, 0, none⟩) M c0] 22)) (.cells #[.int .i64 4] 3) none)
  have hsz : ((wb.alloc (.cells #[.slice (some ⟨r + 1 + 1, 0, none⟩) M c0] 22)).alloc (.cells #[.int .i64 4] 3)).heap.size = r + 1 + 1 + 1 + 1 + 1 := by simp [hwb]
  generalize (wb.alloc (.cells #[.slice (some ⟨r + 1 + 1, 0, none⟩) M c0] 22)).alloc (.cells #[.int .i64 4] 3) = wc at *
  have HW := Lib.hid (And.intro (HG.out.trans gC) (And.intro (HF.out.keep gC (by simp)) (And.intro (HB.out.kept gC (by simp)) (fun j hj => gC.cell (HC.out j hj) (by simp)))))
  clear HG HF HB HC gC hwb
  obtain ⟨gW, fR, bN, hcell⟩ := HW.out
  obtain ⟨q, hq⟩ : ∃ q, 2 * n + 1 = q := ⟨_, rfl⟩
  have hqM : q * 4 = M := by rw [← HM.out]; omega
  refine wpIn_rangeFunc_ownG rfl (by omega) (gf := 164) (lb := #[.pointer (some ⟨r + 1 + 1 + 1, 0, none⟩), .pointer (some ⟨r + 1 + 1 + 1 + 1, 0, none⟩)]) rfl trivial (enters_of Tryd.func164 (by kernel_rfl) rfl)
    (chunk8 ⟨r + 1 + 1, 0, none⟩ M c0 4 q (r + 1 + 1 + 1) (r + 1 + 1 + 1 + 1) wc (by omega) hqM (by omega) hc0 (by omega) d1.cell d2.cell) (kd2_t _ _) (kd2_b _ _ _ (by omega) (by omega)) (Below.refl _ _) (fun _ => rfl)
    (fun pre W => (∃ v, Boxed W (r + 1) 57 v ∧ W.ownsRow wc.heap.size 2 1 v pre.length (pn S.data.toList q pre) ∧ True) ∧ wc.grownBy W (some (r + 1)))
    (fun _ _ _ => False)
    ?own (fun _ _ _ _ _ hs _ _ => hs) ?start
    (fun x => { tmps := #[.string S, undef, .pointer (some ⟨r, 0, none⟩), .pointer (some ⟨r + 1, 0, none⟩), .slice (some ⟨r + 1 + 1, 4 * x.1, none⟩) 4 4, undef, undef, undef, undef, undef, undef, .string S, .string S, .int .i64 ((M : Int) + 2), .int .i64 (M : Int), .string (S.extract 0 M), .slice (some ⟨r + 1 + 1, 0, none⟩) M c0, .func (.func 164) #[] #[.pointer (some ⟨r + 1 + 1 + 1, 0, none⟩), .pointer (some ⟨r + 1 + 1 + 1 + 1, 0, none⟩)], .slice (some ⟨r + 1 + 1, 4 * x.1, none⟩) 4 4, undef, undef, undef, undef, undef, undef, undef, undef, undef, undef, undef, undef, undef, undef, undef, undef, undef, undef, undef, undef, undef, undef, undef, undef, undef, undef, undef, undef, undef, undef, undef, undef, undef, undef, undef, undef, undef, undef], defers := [] }) ?assign ?body ?done ?stop
  case own => exact OwnFrom.and (Own.from (holdsRow_own wc.heap.size (r + 1) 57 2 1 (fun pre : List (Fin q) => pre.length) (fun pre => pn S.data.toList q pre) (fun _ _ => True)) _) (own_gb wc _ _ (Nat.le_refl _))
  case start => exact ⟨⟨_, bN, World.ownsRow_nil _ _ _ _, trivial⟩, World.grownBy.refl _ _⟩
  case assign =>
    intro l x W K hK
    gi_wp2
    exact hK
  case body =>
    rintro l pre ⟨x, hx⟩ W ⟨⟨v, hv, hrow, _⟩, hB⟩ hlt
    obtain ⟨A, c, rfl⟩ := row_slice hrow
    obtain ⟨p, b0, b1, b2, b3, hp, k0, k1, k2, k3, e0, e1, e2, e3, hn4⟩ := part4 (fun j hj => hB.cell (hcell j hj) (by simp)) x (by omega)
    have hc := hv.cell
    have hf := hv.frozen
    dsimp only
    rw [hp]
    have hnum := fun w => number_i b0 b1 b2 b3 w k0 k1 k2 k3
    rw [hn4] at hnum
    have HN := Lib.hid hnum
    have hat := word_at W.drew ⟨r + 1 + 1, p, none⟩ 4
    have hat2 := word_at W ⟨r + 1 + 1, p, none⟩ 4
    have KK := Lib.hid (And.intro hv (And.intro hrow hB))
    have hlast : pn S.data.toList q (pre ++ [⟨x, hx⟩]) = n64 ((pre.map fun i => n4 S.data.toList (4 * i.1)) ++ [n4 S.data.toList (4 * x)]) := by simp [pn]
    have HL := Lib.hid hlast
    have hrow' : W.ownsRow wc.heap.size 2 1 (.slice A pre.length c) pre.length (n64 (pre.map fun i => n4 S.data.toList (4 * i.1))) := hrow
    have HR := Lib.hid hrow'
    generalize (pre.map fun i => n4 S.data.toList (4 * i.1)) = nums at *
    generalize n4 S.data.toList (4 * x) = num at *
    have HI := Lib.hid hlt
    clear hv hrow hrow' hB hnum hlast hn4 hp hlt
    gi_wp2
    gi_region_with_o (refine ⟨trivial, ?_⟩; gi_at_call 144; refine (CallsIn.inRound l (callsIn_wide.2 (HN.out _))).mono ?_; rintro e w5 ⟨rfl, hg5⟩; have gd := (gb_drewN W 1 none).trans hg5; have g6 := World.grownBy_alloc w5 (.cells #[.int .i64 (num : Int)] 2) none; have hsz := (KK.out.2.2.trans (gb_row gd)).size; obtain ⟨A6, c6, w6, hrun, z1, z2⟩ := app64 [num] ⟨w5.heap.size, 0, none⟩ 1 1 i0 hi0 hz0 hz1 hz2 (own_kept0 HR.out (gd.trans g6)) rfl (World.news_of_block (cs := #[.int .i64 (num : Int)]) (t := 2) (fr := (0, 0)) (heap_alloc_new w5 _)) (by have := HI.out; omega) (by simp; omega); have hne : (Value.slice A pre.length c).ownBlock ≠ some (r + 1) := (by rw [own_blk]; intro e; have := (own_base HR.out _ e).1; omega); have bv6 := (KK.out.1.kept (gd.trans g6) (by simp)).kept z2 (fun e => hne e.symm); have q1 := bv6.cell; have q2 := bv6.frozen; have q3 := (KK.out.1.kept gd (by simp)).cell; have q4 := (KK.out.1.kept (gd.trans g6) (by simp)).cell; have HZ := Lib.hid (And.intro bv6 (And.intro z1 (And.intro z2 (And.intro (gd.trans g6) hne)))); clear gd g6 z1 z2 hne bv6 hg5)
    all_goals
      gi_wp2
      obtain ⟨y1, y2, y3, y4, y5⟩ := fin1 (.slice A6 (pre.length + 1) c6) HZ.out.1 HZ.out.2.1 HZ.out.2.2.1 HZ.out.2.2.2.1 (own_kept0 HR.out HZ.out.2.2.2.1) KK.out.2.2 rfl (show r + 1 < wc.heap.size by omega) (D1 := r + 1 + 1 + 1) (D2 := r + 1 + 1 + 1 + 1) ⟨by omega, by omega⟩ ⟨by omega, by omega⟩
      refine ⟨y1, y2, ⟨_, y3, ?_, trivial⟩, y5⟩
      rw [List.length_append, HL.out]
      exact y4
  case done =>
    rintro D xs W hD hS ⟨⟨v, hv, hrow, _⟩, hB⟩ hK
    obtain ⟨A, c, rfl⟩ := row_slice hrow
    have hxl : xs.length = q := by rw [← List.length_map (f := Fin.val), hS, List.length_range]
    rw [hxl, pn_all _ _ _ hS] at hrow
    rw [hxl] at hv
    obtain ⟨g, hgA, hgB, hqc⟩ : ∃ g, A = some ⟨g, 0, none⟩ ∧ wc.heap.size ≤ g ∧ q ≤ c := by
      rcases hrow.2 with ⟨h, h0⟩ | ⟨g, cap, cur, h, hb, _, hc, _⟩
      · omega
      · injection h with h a b
        exact ⟨g, h, hb, by omega⟩
    subst hgA
    have hnc : ∀ i, i < q → W.cell? ⟨g, i, none⟩ = some (.int .i64 (n4 S.data.toList (4 * i) : Nat)) := fun i hi => by
      have := hrow.cells (g := g) rfl i (.int .i64 (n4 S.data.toList (4 * i) : Nat)) (by unfold n64; rw [List.getElem?_map, nq_at _ hi]; rfl)
      rw [← this, add0]
    have hc := hv.cell
    have hn0 := hnc 0 (by omega)
    have HNC := Lib.hid hnc
    have hsW := hB.size
    have fRW := fR.keep hB (by intro e; injection e with e; omega)
    have HRW := Lib.hid (And.intro hrow (And.intro hB (And.intro hv (And.intro fRW hK))))
    obtain ⟨idx, hidx⟩ : ∃ idx, n4 S.data.toList 0 = idx := ⟨_, rfl⟩
    rw [show 4 * 0 = 0 from rfl, hidx] at hn0
    have HID := Lib.hid hidx
    have gF := World.grownBy_alloc W (.cells #[.int .i64 (idx : Int), .slice none 0 0] 51) none
    have hc2 := gF.cell hc (by simp)
    have x1 : (1 : Int) ≤ (q : Int) := by omega
    have x2 : (q : Int) ≤ (c : Int) := by omega
    clear hnc hrow hB hv hidx fRW
    gi_wp2
    refine ⟨trivial, (callsIn_wide.2 (chunk_c64 _ _ _ 2 _ (by omega))).mono ?_⟩
    rintro e w' ⟨rfl, rfl⟩
    gi_wp2
    obtain ⟨Q, hQ⟩ : ∃ Q, W.heap.size = Q := ⟨_, rfl⟩
    have fF := Fk.new W (.int .i64 (idx : Int)) (.slice none 0 0)
    have d1' := (Boxed.new (W.alloc (.cells #[.int .i64 (idx : Int), .slice none 0 0] 51)) 57 (.slice (some ⟨g, 1, none⟩) (q - 1) (c - 1))).alloc (.cells #[.int .i64 2] 3)
    have d2' := Boxed.new ((W.alloc (.cells #[.int .i64 (idx : Int), .slice none 0 0] 51)).alloc (.cells #[.slice (some ⟨g, 1, none⟩) (q - 1) (c - 1)] 57)) 3 (.int .i64 2)
    have gD := (World.grownBy_alloc (W.alloc (.cells #[.int .i64 (idx : Int), .slice none 0 0] 51)) (.cells #[.slice (some ⟨g, 1, none⟩) (q - 1) (c - 1)] 57) none).trans (World.grownBy_alloc ((W.alloc (.cells #[.int .i64 (idx : Int), .slice none 0 0] 51)).alloc (.cells #[.slice (some ⟨g, 1, none⟩) (q - 1) (c - 1)] 57)) (.cells #[.int .i64 2] 3) none)
    have hszd : (((W.alloc (.cells #[.int .i64 (idx : Int), .slice none 0 0] 51)).alloc (.cells #[.slice (some ⟨g, 1, none⟩) (q - 1) (c - 1)] 57)).alloc (.cells #[.int .i64 2] 3)).heap.size = Q + 1 + 1 + 1 := by simp [hQ]
    simp only [World.size_alloc] at d1' d2'
    rw [hQ] at d1' d2' fF ⊢
    have fF := fF.keep gD (by simp)
    have gD := gF.trans gD
    generalize ((W.alloc (.cells #[.int .i64 (idx : Int), .slice none 0 0] 51)).alloc (.cells #[.slice (some ⟨g, 1, none⟩) (q - 1) (c - 1)] 57)).alloc (.cells #[.int .i64 2] 3) = wd at *
    have hgq : g < Q := by have := World.block_lt_of_cell? W _ (HNC.out 0 (by omega)); dsimp only at this; omega
    refine wpIn_rangeFunc_ownG rfl (by omega) (gf := 165) (lb := #[.pointer (some ⟨Q + 1, 0, none⟩), .pointer (some ⟨Q + 1 + 1, 0, none⟩)]) rfl trivial (enters_of Tryd.func165 (by kernel_rfl) rfl)
      (chunk64 ⟨g, 1, none⟩ (q - 1) (c - 1) 2 n (Q + 1) (Q + 1 + 1) wd (by omega) (by omega) (by omega) (by omega) (by omega) d1'.cell d2'.cell) (kd2_t _ _) (kd2_b _ _ _ (by omega) (by omega)) (Below.refl _ _) (fun _ => rfl)
      (fun pre W2 => FQ Q wd.heap.size idx (pr S.data.toList n pre) W2 ∧ wd.grownBy W2 (some Q))
      (fun _ _ _ => False)
      ?own2 (fun _ _ _ _ _ hs _ _ => hs) ?start2
      (fun x => { tmps := #[.string S, undef, .pointer (some ⟨r, 0, none⟩), .pointer (some ⟨r + 1, 0, none⟩), undef, .pointer (some ⟨Q, 0, none⟩), .slice (some ⟨g, 1 + 2 * x.1, none⟩) 2 2, undef, undef, undef, undef, .string S, .string S, .int .i64 ((M : Int) + 2), .int .i64 (M : Int), .string (S.extract 0 M), .slice (some ⟨r + 1 + 1, 0, none⟩) M c0, .func (.func 164) #[] #[.pointer (some ⟨r + 1 + 1 + 1, 0, none⟩), .pointer (some ⟨r + 1 + 1 + 1 + 1, 0, none⟩)], undef, undef, undef, undef, undef, undef, undef, undef, .slice (some ⟨g, 0, none⟩) q c, .pointer (some ⟨g, 0, none⟩), .int .i64 (idx : Int), .agg #[.int .i64 (idx : Int), .slice none 0 0], .slice (some ⟨g, 0, none⟩) q c, .slice (some ⟨g, 1, none⟩) (q - 1) (c - 1), .func (.func 165) #[] #[.pointer (some ⟨Q + 1, 0, none⟩), .pointer (some ⟨Q + 1 + 1, 0, none⟩)], .slice (some ⟨g, 1 + 2 * x.1, none⟩) 2 2, undef, undef, undef, undef, undef, undef, undef, undef, undef, undef, undef, undef, undef, undef, undef, undef, undef, undef, undef, undef, undef, undef, undef], defers := [] }) ?assign2 ?body2 ?done2 ?stop2
    case own2 => exact OwnFrom.and (fq_own Q wd.heap.size wd.heap.size idx (fun pre : List (Fin n) => pr S.data.toList n pre) (by omega)) (own_gb wd _ _ (Nat.le_refl _))
    case start2 => exact ⟨⟨none, 0, fF, World.ownsRow_nil _ _ _ _⟩, World.grownBy.refl _ _⟩
    case assign2 =>
      intro l x W K hK
      gi_wp2
      exact hK
    case body2 =>
      rintro l pre ⟨x, hx⟩ W2 ⟨⟨A, c', hf, hrow⟩, hB2⟩ hlt
      have hgW := fun (i : Nat) (hi : i < q) => hB2.cell (gD.cell (HNC.out i hi) (by simp)) (by intro e; injection e with e; dsimp only at e; omega)
      have e0 := hgW (1 + 2 * x) (by omega)
      have e1 := hgW (1 + 2 * x + 1) (by omega)
      rw [show 4 * (1 + 2 * x) = 4 + 8 * x by omega] at e0
      rw [show 4 * (1 + 2 * x + 1) = 8 + 8 * x by omega] at e1
      have hF1 := fun w => from_i (n4 S.data.toList (4 + 8 * x)) w (n4_lt _ _)
      have hF2 := fun w => from_i (n4 S.data.toList (8 + 8 * x)) w (n4_lt _ _)
      have hsn := pr_snoc S.data.toList n pre ⟨x, hx⟩
      dsimp only at hsn ⊢
      generalize hpp : 1 + 2 * x = pp at *
      generalize n4 S.data.toList (4 + 8 * x) = re at *
      generalize n4 S.data.toList (8 + 8 * x) = im at *
      have hpl : (pr S.data.toList n pre).length < 1000 := by rw [pr_len]; exact hlt
      have HSN := Lib.hid hsn
      generalize pr S.data.toList n pre = xs2 at *
      obtain ⟨A6, c6, w6, hrun, z1, z2⟩ := appC re im hrow hpl (by have := hB2.size; omega)
      obtain ⟨⟨t1, t2⟩, t3, t4, t5, t6⟩ := fin2 hf hrow z1 z2 hB2 rfl (show Q < wd.heap.size by omega) (D1 := Q + 1) (D2 := Q + 1 + 1) ⟨by omega, by omega⟩ ⟨by omega, by omega⟩
      obtain ⟨f0, f1, f2, f3⟩ := hf.cells
      have HH1 := Lib.hid hF1
      have HH2 := Lib.hid hF2
      have HZ := Lib.hid (And.intro t3 (And.intro t4 (And.intro t5 t6)))
      clear hgW hF1 hF2 hsn hrow hB2 hf z1 z2 t3 t4 t5 t6
      gi_wp2
      refine ⟨trivial, (CallsIn.inRound l (callsIn_wide.2 (HH1.out _))).mono ?_⟩
      rintro e w' ⟨rfl, rfl⟩
      gi_wp2
      refine ⟨trivial, (CallsIn.inRound l (callsIn_wide.2 (HH2.out _))).mono ?_⟩
      rintro e w' ⟨rfl, rfl⟩
      gi_wp2
      refine ⟨HZ.out.1, HZ.out.2.1, ?_, HZ.out.2.2.2⟩
      rw [HSN.out]
      exact HZ.out.2.2.1
    case done2 =>
      rintro D2 ys W2 hD2 hS2 ⟨⟨A, c', hf, hrow⟩, hB2⟩ hK2
      rw [pr_all _ _ _ hS2] at hf hrow
      rw [tk_len] at hf hrow
      have fR2 := (HRW.out.2.2.2.1.keep gD (by simp)).keep hB2 (by intro e; injection e with e; omega)
      obtain ⟨f0, f1, f2, f3⟩ := hf.cells
      obtain ⟨r0, r1, r2, r3⟩ := fR2.cells
      have hKD : W2.heap[D]? = some (.deferred (some [])) := by
        have hDl : D < W.heap.size := (Array.getElem?_eq_some_iff.1 HRW.out.2.2.2.2).1
        have h1 := gD.block D hDl (by simp)
        have h2 := hB2.block D (by omega) (by intro e; injection e with e; omega)
        rw [h2, h1]
        exact HRW.out.2.2.2.2
      obtain ⟨⟨p0, p1⟩, gP⟩ := res_put fR2 (.int .i64 (idx : Int)) (.slice A n c')
      have hDr : D ≠ r := by omega
      have hDQ : D < Q := by have := (Array.getElem?_eq_some_iff.1 HRW.out.2.2.2.2).1; omega
      have hDD := (Array.getElem?_eq_some_iff.1 hK2).1
      have HP := Lib.hid (And.intro gP (And.intro hrow (And.intro hB2 (And.intro hK2 (And.intro hKD (And.intro p0 p1))))))
      clear fR2 hrow hB2 hf gP
      gi_wp2
      generalize hwz : (W2.setCell ⟨r, 0, none⟩ (.int .i64 (idx : Int))).setCell ⟨r, 1, none⟩ (.slice A n c') = wz at *
      obtain ⟨gP, hrow, hB2, hK2, hKD, p0, p1⟩ := HP.out
      have k2 : wz.heap[D2]? = some (.deferred (some [])) := by rw [gP.block D2 hDD (by intro e; injection e with e; omega)]; exact hK2
      have k3 : wz.heap[D]? = some (.deferred (some [])) := by rw [gP.block D (by omega) (by intro e; injection e with e; omega)]; exact hKD
      have gp1 := grownBy_putObj' wz D2 (.deferred none)
      have gp2 := grownBy_putObj' (wz.putObj D2 (.deferred none)) D (.deferred none)
      have hz := gP.size
      have k1 : (wz.putObj D2 (.deferred none)).heap[D]? = some (.deferred (some [])) := by rw [gp1.block D (by omega) (by intro e; injection e with e; omega)]; exact k3
      have c0 := gp2.cell (gp1.cell p0 (by intro e; injection e with e; dsimp only at e; omega)) (by intro e; injection e with e; dsimp only at e; omega)
      have c1 := gp2.cell (gp1.cell p1 (by intro e; injection e with e; dsimp only at e; omega)) (by intro e; injection e with e; dsimp only at e; omega)
      have rowz : wz.ownsRow wd.heap.size 110 1 (.slice A n c') n (lst (ccell (tk S.data.toList 0 n)) n) := World.ownsRow.kept hrow gP (.inr (fun e => by rw [own_blk] at e; have := (own_base hrow _ e).1; omega))
      have rowF := ownsRow_putObj (ownsRow_putObj rowz (.deferred none) k2 rfl) (.deferred none) k1 rfl
      have gbF := gb_new (gb_new (gb_new (gb_new (gb_new (HW.out.1) HRW.out.2.1 (by intro b e; injection e with e; have := HW.out.1.size; omega) |>.trans gD) hB2 (by intro b e; injection e with e; omega)) gP (by intro b e; injection e with e; omega)) gp1 (by intro b e; injection e with e; omega)) gp2 (by intro b e; injection e with e; omega)
      refine ⟨by simp, .inl ⟨_, _, rfl, run_takeDeferred k2, ?_⟩⟩
      refine ⟨by simp, .inl ⟨_, _, rfl, run_takeDeferred k1, ?_⟩⟩
      generalize (wz.putObj D2 (.deferred none)).putObj D (.deferred none) = wf at *
      refine ⟨.agg #[.int .i64 (idx : Int), .slice A n c'], by simp [results, Tryd.results117, go_sem, c0, c1], ⟨A, c', by rw [HID.out], Go.Proofs.YthlfclnfkgiddaaDoor.takeI.row_base rowF (by omega)⟩, gbF⟩
    case stop2 =>
      rintro D c pre W _ _ h _
      exact h.elim
  case stop =>
    rintro D c pre W _ _ h _
    exact h.elim

end Go.Proofs.YthlfclnfkgiddaaDoor.takeI
