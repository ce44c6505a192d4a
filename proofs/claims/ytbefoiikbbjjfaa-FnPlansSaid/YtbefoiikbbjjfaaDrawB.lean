/- Draws of valid beams. -/
import Derived.Test.YtbefoiikbbjjfaaRows
import Derived.Test.YtbefoiikbbjjfaaSlc
import Derived.Test.YtbefoiikbbjjfaaSmall
import Derived.Test.YtbefoiikbbjjfaaOpens
import Derived.Test.YtbefoiikbbjjfaaPlaceAll
import Derived.Test.YtbefoiikbbjjfaaR8
import Derived.Test.YtbefoiikbbjjfaaSrc
import Derived.Test.YtbefoiikbbjjfaaDrawOk
import Derived.Test.YtbefoiikbbjjfaaBeams
import Derived.Test.YtbefoiikbbjjfaaPlanNum
import Derived.WalkKit
import Derived.ProofKit
import Derived.OpenShut
import Derived.ShutString
import Derived.ChangeOld
import Derived.Below
import Derived.Lib.Hide
import Derived.BigQuiet
import Derived.Deep.QuietTactic
import Derived.WalkLawsBesides
import Derived.Outline
import Derived.Deep.LoopGhost
import Derived.Deep.RegionHeld3
import Derived.Deep.RegionWith
namespace Go.Proofs.Ytbefoiikbbjjfaa.drawB
open Go.ChangeShapes Go.WideShapes Go.ChangeAt Go.RowKit
open Go.ChangeMaps (open_string shut_string)
set_option linter.unusedVariables false
open Go Go.RowKit
open Go.Proofs.Ytbefoiikbbjjfaa.slc Go.Proofs.Ytbefoiikbbjjfaa.small Go.Proofs.Ytbefoiikbbjjfaa.opens Go.Proofs.Ytbefoiikbbjjfaa.r8 Go.Proofs.Ytbefoiikbbjjfaa.src Go.Proofs.Ytbefoiikbbjjfaa.drawOk Go.Proofs.Ytbefoiikbbjjfaa.beams Go.Proofs.Ytbefoiikbbjjfaa.planNum

theorem bcell_snoc (bs : List Bm) (u v d s : Int) : lst (bcell (bs ++ [(u, v, d, s)])) ((bs ++ [(u, v, d, s)]).length * 4) = lst (bcell bs) (bs.length * 4) ++ [.int .i64 u, .int .i64 v, .int .i64 d, .int .i64 s] := by
  apply List.ext_getElem?
  intro i
  rw [List.length_append, List.length_singleton]
  by_cases h1 : i < bs.length * 4
  · rw [List.getElem?_append_left (by rw [lst_len]; exact h1), lst_get _ _ _ h1, lst_get _ _ _ (by omega)]
    unfold bcell
    rw [show (bs ++ [(u, v, d, s)]).getD (i / 4) (0, 0, 0, 0) = bs.getD (i / 4) (0, 0, 0, 0) by simp only [List.getD, List.getElem?_append_left (show i / 4 < bs.length by omega)]]
  · rw [List.getElem?_append_right (by rw [lst_len]; omega), lst_len]
    have hq : ∀ q, q < 4 → i = bs.length * 4 + q → (bs ++ [(u, v, d, s)]).getD (i / 4) (0, 0, 0, 0) = (u, v, d, s) := fun q hq e => by
      rw [show i / 4 = bs.length by omega]
      simp [List.getD]
    by_cases h2 : i < (bs.length + 1) * 4
    · rw [lst_get _ _ _ h2]
      unfold bcell
      obtain ⟨q, hq4, e⟩ : ∃ q, q < 4 ∧ i = bs.length * 4 + q := ⟨i - bs.length * 4, by omega, by omega⟩
      rw [hq q hq4 e]
      match q, hq4 with
      | 0, _ => rw [if_pos (by omega), show i - bs.length * 4 = 0 by omega]; rfl
      | 1, _ => rw [if_neg (by omega), if_pos (by omega), show i - bs.length * 4 = 1 by omega]; rfl
      | 2, _ => rw [if_neg (by omega), if_neg (by omega), if_pos (by omega), show i - bs.length * 4 = 2 by omega]; rfl
      | 3, _ => rw [if_neg (by omega), if_neg (by omega), if_neg (by omega), show i - bs.length * 4 = 3 by omega]; rfl
    · rw [List.getElem?_eq_none (by rw [lst_len]; omega), List.getElem?_eq_none (by simp; omega)]
theorem from_is (A : Option Addr) (n c : Nat) (w : World) : Calls Try.prog 84 #[.slice A n c] w fun e w' => e = .returned (.pointer (some ⟨w.heap.size, 0, none⟩)) ∧ Src w' w.heap.size A n c 0 ∧ w.grownBy w' none := by
  have hs := Src.new w A n c
  have hg := World.grownBy_alloc w (.cells #[.slice A n c, .int .i64 0, .int .u64 0] 197) none
  have HS := Lib.hid hs
  have HG := Lib.hid hg
  clear hs hg
  go_enter Try.func84, Try.ntmps84
  go_wp2_with fail
  go_ret
  exact ⟨rfl, HS.out, HG.out⟩
/-- A block of the call's own that holds a direction. -/
def Dx (w : World) (b : Nat) (x y : Int) : Prop := w.ownsRow b 64 2 (.slice (some ⟨b, 0, none⟩) 1 1) 1 [.int .i64 x, .int .i64 y]
section
variable {w w' : World} {b : Nat} {x y : Int} {row : Option Nat}
theorem Dx.new (w : World) (x y : Int) : Dx (w.alloc (.cells #[.int .i64 x, .int .i64 y] 64)) w.heap.size x y := World.ownsRow_lit w #[.int .i64 x, .int .i64 y] 1 (Nat.le_refl _) (by decide) rfl
theorem Dx.facts (h : Dx w b x y) : w.cell? ⟨b, 0, none⟩ = some (.int .i64 x) ∧ w.cell? ⟨b, 1, none⟩ = some (.int .i64 y) ∧ w.frozen? ⟨b, 0, none⟩ = false ∧ w.frozen? ⟨b, 1, none⟩ = false :=
  ⟨h.cellAt 0 (by decide), h.cellAt 1 (by decide), h.frozenAt 0, h.frozenAt 1⟩
theorem Dx.put1 (h : Dx w b x y) (x' : Int) : Dx (w.setCell ⟨b, 0, none⟩ (.int .i64 x')) b x' y ∧ w.grownBy (w.setCell ⟨b, 0, none⟩ (.int .i64 x')) (some b) := h.stored 0 (.int .i64 x')
theorem Dx.put2 (h : Dx w b x y) (y' : Int) : Dx (w.setCell ⟨b, 1, none⟩ (.int .i64 y')) b x y' ∧ w.grownBy (w.setCell ⟨b, 1, none⟩ (.int .i64 y')) (some b) := h.stored 1 (.int .i64 y')
theorem Dx.keep (h : Dx w b x y) (hg : w.grownBy w' row) (hne : some b ≠ row) : Dx w' b x y := World.ownsRow.kept h hg (.inr (by simpa [Value.ownBlock] using hne))
theorem Dx.lt (h : Dx w b x y) : b < w.heap.size := World.block_lt_of_cell? w _ h.facts.1
end
theorem build_dir1 (w : World) (x : Int) : (Instr.build 64 #[(0, .int .i64 x)]).run Try.prog w = .ok (.agg #[.int .i64 x, .int .i64 0]) w := run_build w 64 _ _ (by kernel_rfl)
attribute [local go_sem] build_dir1
set_option maxHeartbeats 2000000 in
theorem dir_b10 (A : Option Addr) (c : Nat) (z : List Int) (w : World) (hl : z.length ≤ 1048576) (hz : Byt z) (hr : Rd w w.heap.size A z.length (bt z)) :
    Calls Try.prog 46 #[.slice A z.length c] w fun e w' => ∃ u v : Int, (-35 ≤ u ∧ u ≤ 35) ∧ (-35 ≤ v ∧ v ≤ 35) ∧ e = .returned (.agg #[.int .i64 u, .int .i64 v]) ∧ w.grownBy w' none := by
  have ga := World.grownBy_alloc w (.cells #[.int .i64 0, .int .i64 0] 64) none
  have da := Dx.new w 0 0
  obtain ⟨wa, hwa⟩ : ∃ wa, w.alloc (.cells #[.int .i64 0, .int .i64 0] 64) = wa := ⟨_, rfl⟩
  rw [hwa] at ga da
  have hra := hr.kept0 ga (Nat.le_refl _)
  have hfr := from_is A z.length c wa
  have HF := Lib.hid hfr
  have HA := Lib.hid hwa
  have HD := Lib.hid da
  clear hfr hwa da
  go_enter Try.func46, Try.ntmps46
  go_wp2_with fail
  rw [HA.out]
  refine HF.out.mono ?_
  rintro e w0 ⟨rfl, hs0, hg0⟩
  have hwa2 := HD.out.lt
  have d0 := HD.out.keep hg0 (by simp)
  have r0 := hra.kept0 hg0 (Nat.le_of_lt hwa2)
  have g0 := ga.trans hg0
  have hb0 := hs0.lt
  generalize hb : wa.heap.size = b at *
  have hp := pick_is A c w.heap.size b 0 z 71 w0 (by omega) hl hz r0 (by omega) hs0 (by decide) (by decide)
  have HP := Lib.hid hp
  clear hp HF HA HD hra ga hg0
  go_wp2_with fail
  refine HP.out.mono ?_
  rintro e w1 ⟨v1, v10, v11, rfl, s1, g1⟩
  have r1 := keepR r0 g1 (by omega) hb0
  have d1 := d0.keep g1 (by intro e; injection e with e; omega)
  have gg1 := gb_new g0 g1 (by intro q e; injection e with e; omega)
  have hb1 := s1.lt
  have ga := World.grownBy_alloc w1 (.cells #[.int .i64 (v1 - 35), .int .i64 0] 64) none
  have e1 := Dx.new w1 (v1 - 35) 0
  have s2 := s1.keep0 ga
  have r2 := r1.kept0 ga (by omega)
  have d2 := d1.keep ga (by simp)
  have gg2 := gg1.trans ga
  obtain ⟨w2, hw2⟩ : ∃ w2, w1.alloc (.cells #[.int .i64 (v1 - 35), .int .i64 0] 64) = w2 := ⟨_, rfl⟩
  rw [hw2] at e1 s2 r2 d2 gg2
  have hp := pick_is A c w.heap.size b 2 z 71 w2 (by omega) hl hz r2 (by omega) s2 (by decide) (by decide)
  have HP2 := Lib.hid hp
  have HW := Lib.hid hw2
  have HE := Lib.hid (And.intro e1 (And.intro d2 gg2))
  clear hp HP ga hw2 e1 d2 gg2 gg1 d1 r1 s1 r0 d0 g0 g1
  go_wp2_with fail
  rw [HW.out]
  refine HP2.out.mono ?_
  rintro e w3 ⟨v2, v20, v21, rfl, s3, g3⟩
  obtain ⟨e1, d2, gg2⟩ := HE.out
  have e3 := e1.keep g3 (by intro e; injection e with e; omega)
  have d3 := d2.keep g3 (by intro e; injection e with e; omega)
  have gg3 := gb_new gg2 g3 (by intro q e; injection e with e; omega)
  generalize hd1 : w1.heap.size = h1 at *
  generalize hr1 : w.heap.size = r at *
  have hne : ¬ h1 = r := by omega
  have hne' : ¬ r = h1 := by omega
  obtain ⟨cx, cy, fx, fy⟩ := e3.facts
  obtain ⟨px, py, qx, qy⟩ := d3.facts
  obtain ⟨e4, g4⟩ := e3.put2 (v2 - 35)
  have d4 := d3.keep g4 (by intro e; injection e with e; omega)
  obtain ⟨d5, g5⟩ := d4.put1 (v1 - 35)
  obtain ⟨d6, g6⟩ := d5.put2 (v2 - 35)
  have gg6 := gb_new (gb_new (gb_new gg3 g4 (by intro q e; injection e with e; omega)) g5 (by intro q e; injection e with e; omega)) g6 (by intro q e; injection e with e; omega)
  have HG := Lib.hid (And.intro gg6 d6.facts)
  clear HW HE HP2 gg6 d6 g6 d5 g5 d4 g4 e4 gg3 d3 e3 g3 s3 e1 d2 gg2 s2 r2
  go_wp2_with fail
  obtain ⟨hg6, c6, c7, _, _⟩ := HG.out
  exact bodyPost_ret (v := .agg #[.int .i64 (v1 - 35), .int .i64 (v2 - 35)]) (by simp [results, Try.results46, go_sem, c6, c7]) rfl ⟨v1 - 35, v2 - 35, by omega, by omega, rfl, hg6⟩
/-- A block of the call's own that holds a beam. -/
def Qb (w : World) (b : Nat) (u v d s : Int) : Prop := w.ownsRow b 66 4 (.slice (some ⟨b, 0, none⟩) 1 1) 1 [.int .i64 u, .int .i64 v, .int .i64 d, .int .i64 s]
section
variable {w w' : World} {b : Nat} {u v d s : Int} {row : Option Nat}
theorem Qb.new (w : World) (u v d s : Int) : Qb (w.alloc (.cells #[.int .i64 u, .int .i64 v, .int .i64 d, .int .i64 s] 66)) w.heap.size u v d s := World.ownsRow_lit w #[.int .i64 u, .int .i64 v, .int .i64 d, .int .i64 s] 1 (Nat.le_refl _) (by decide) rfl
theorem Qb.cells (h : Qb w b u v d s) : w.cell? ⟨b, 0, none⟩ = some (.int .i64 u) ∧ w.cell? ⟨b, 1, none⟩ = some (.int .i64 v) ∧ w.cell? ⟨b, 2, none⟩ = some (.int .i64 d) ∧ w.cell? ⟨b, 3, none⟩ = some (.int .i64 s) :=
  ⟨h.cellAt 0 (by decide), h.cellAt 1 (by decide), h.cellAt 2 (by decide), h.cellAt 3 (by decide)⟩
theorem Qb.ice (h : Qb w b u v d s) (i : Nat) : w.frozen? ⟨b, i, none⟩ = false := h.frozenAt i
theorem Qb.put1 (h : Qb w b u v d s) (x : Int) : Qb (w.setCell ⟨b, 1, none⟩ (.int .i64 x)) b u x d s ∧ w.grownBy (w.setCell ⟨b, 1, none⟩ (.int .i64 x)) (some b) := h.stored 1 (.int .i64 x)
theorem Qb.put2 (h : Qb w b u v d s) (x : Int) : Qb (w.setCell ⟨b, 2, none⟩ (.int .i64 x)) b u v x s ∧ w.grownBy (w.setCell ⟨b, 2, none⟩ (.int .i64 x)) (some b) := h.stored 2 (.int .i64 x)
theorem Qb.put3 (h : Qb w b u v d s) (x : Int) : Qb (w.setCell ⟨b, 3, none⟩ (.int .i64 x)) b u v d x ∧ w.grownBy (w.setCell ⟨b, 3, none⟩ (.int .i64 x)) (some b) := h.stored 3 (.int .i64 x)
theorem Qb.keep (h : Qb w b u v d s) (hg : w.grownBy w' row) (hne : some b ≠ row) : Qb w' b u v d s := World.ownsRow.kept h hg (.inr (by simpa [Value.ownBlock] using hne))
theorem Qb.lt (h : Qb w b u v d s) : b < w.heap.size := World.block_lt_of_cell? w _ h.cells.1
end
/-- A drawn beam. -/
def SmB (x : Bm) : Prop := (-30 ≤ x.1 ∧ x.1 ≤ 30) ∧ (-30 ≤ x.2.1 ∧ x.2.1 ≤ 30) ∧ (1 ≤ x.2.2.1 ∧ x.2.2.1 ≤ 4) ∧ (x.2.2.1 ≤ x.2.2.2 ∧ x.2.2.2 ≤ x.2.2.1 + 19)
theorem SmB.ok {x : Bm} (h : SmB x) : bb x = true := by
  obtain ⟨u, v, d, s⟩ := x
  obtain ⟨h1, h2, h3, h4⟩ := h
  dsimp only at h1 h2 h3 h4
  have a : u.natAbs * u.natAbs ≤ 30 * 30 := Nat.mul_le_mul (by omega) (by omega)
  have b : v.natAbs * v.natAbs ≤ 30 * 30 := Nat.mul_le_mul (by omega) (by omega)
  have e1 : u * u = ((u.natAbs * u.natAbs : Nat) : Int) := by simp
  have e2 : v * v = ((v.natAbs * v.natAbs : Nat) : Int) := by simp
  refine bb_mk ?_ (by omega) (by omega) (by omega) (by omega)
  unfold dirB
  refine decide_eq_true ?_
  omega
theorem smb_ab {bs : List Bm} (h : ∀ x ∈ bs, SmB x) (h1 : 1 ≤ bs.length) (h4 : bs.length ≤ 4) : ab bs = true := by
  unfold ab
  rw [decide_eq_true (by omega), Bool.true_and, List.all_eq_true]
  exact fun x hx => (h x hx).ok
theorem smb_snoc {bs : List Bm} {x : Bm} (h : ∀ y ∈ bs, SmB y) (hx : SmB x) : ∀ y ∈ bs ++ [x], SmB y := fun y hy => by
  rcases List.mem_append.1 hy with h1 | h1
  · exact h y h1
  · rw [List.mem_singleton.1 h1]; exact hx
/-- What lies there while a beam is drawn. -/
structure Bg (w x : World) (b B q : Nat) (A : Option Addr) (z : List Int) (c m : Nat) (bs : List Bm) (O : Option Addr) (dd : Nat) (u v d s : Int) : Prop where
  bw : b < w.heap.size
  qw : w.heap.size ≤ q
  Bb : B ≤ b
  own : x.ownsRow w.heap.size 66 4 (.slice O bs.length dd) bs.length (lst (bcell bs) (bs.length * 4))
  off : O.map Addr.block ≠ some q
  src : Src x b A z.length c m
  rd : Rd x B A z.length (bt z)
  gb : w.grownBy x (some b)
  qb : Qb x q u v d s
section
variable {w x y : World} {b B q : Nat} {A : Option Addr} {z : List Int} {c m m' : Nat} {bs : List Bm} {O : Option Addr} {dd : Nat} {u v d s u' v' d' s' : Int}
theorem Bg.pick (h : Bg w x b B q A z c m bs O dd u v d s) (g : x.grownBy y (some b)) (hs : Src y b A z.length c m') : Bg w y b B q A z c m' bs O dd u v d s :=
  ⟨h.bw, h.qw, h.Bb, own_away h.own g h.bw, h.off, hs, keepR h.rd g h.Bb h.src.lt, h.gb.trans g, h.qb.keep g (by intro e; injection e with e; have := h.bw; have := h.qw; omega)⟩
theorem Bg.drawn (h : Bg w x b B q A z c m bs O dd u v d s) (n : Nat) : Bg w (x.drewN n) b B q A z c m bs O dd u v d s :=
  ⟨h.bw, h.qw, h.Bb, own_kept0 h.own (gb_drewN _ _ _), h.off, h.src.keep0 (gb_drewN _ _ _), h.rd.drewN _, h.gb.trans (gb_drewN _ _ _), h.qb.keep (gb_drewN _ _ none) (by simp)⟩
theorem Bg.put (h : Bg w x b B q A z c m bs O dd u v d s) (g : x.grownBy y (some q)) (hq : Qb y q u' v' d' s') : Bg w y b B q A z c m bs O dd u' v' d' s' := by
  have hbq : b ≠ q := by have := h.bw; have := h.qw; omega
  refine ⟨h.bw, h.qw, h.Bb, World.ownsRow.kept h.own g (.inr (by rw [own_blk]; exact h.off)), h.off, h.src.keep g (by intro e; injection e with e; exact hbq e), h.rd.kept g (Nat.le_trans h.Bb (Nat.le_of_lt h.src.lt)) ?_, gb_new2 h.gb g (fun r e => by injection e with e; have := h.qw; omega), hq⟩
  intro r _ hlt e
  injection e with e
  have := h.Bb
  have := h.bw
  have := h.qw
  omega
end
theorem infoB : (Try.prog.info? 66).map (fun i => (i.zero, i.size, i.bytes)) = some (some (.agg #[.int .i64 0, .int .i64 0, .int .i64 0, .int .i64 0]), 4, 32) := by kernel_rfl
theorem build_d1 (w : World) (x : Int) : (Instr.build 64 #[(0, .int .i64 x)]).run Try.prog w = .ok (.agg #[.int .i64 x, .int .i64 0]) w := run_build w 64 _ _ (by kernel_rfl)
theorem build_b1 (w : World) (x y : Int) : (Instr.build 66 #[(0, .agg #[.int .i64 x, .int .i64 y])]).run Try.prog w = .ok (.agg #[.int .i64 x, .int .i64 y, .int .i64 0, .int .i64 0]) w := run_build w 66 _ _ (by kernel_rfl)
attribute [local go_sem] build_d1 build_b1
def bnews (u v d s : Int) : List Value := [.int .i64 u, .int .i64 v, .int .i64 d, .int .i64 s]
set_option maxHeartbeats 4000000 in
set_option maxRecDepth 100000 in
theorem draw_beams (A : Option Addr) (c B b : Nat) (z : List Int) (w : World) (hl : z.length ≤ 1048576) (hz : Byt z) (hr : Rd w B A z.length (bt z)) (hB : B ≤ b) (hs : Src w b A z.length c 0) :
    Calls Try.prog 101 #[.pointer (some ⟨b, 0, none⟩)] w fun e w' => ∃ (bs : List Bm) (A' : Option Addr) (c' : Nat), (∀ x ∈ bs, SmB x) ∧ 1 ≤ bs.length ∧ bs.length ≤ 4 ∧ e = .returned (.slice A' bs.length c') ∧ w'.ownsRow w.heap.size 66 4 (.slice A' bs.length c') bs.length (lst (bcell bs) (bs.length * 4)) ∧ w.grownBy w' (some b) := by
  obtain ⟨i0, hi0, hz0, hz1, hz2⟩ := info_parts infoB
  have hbw := hs.lt
  have ga := World.grownBy_alloc w (.cells #[] 66) none
  have ho0 := World.ownsRow_lit (base := w.heap.size) (e := 66) (size := 4) w #[] 0 (Nat.le_refl _) (Nat.zero_le _) rfl
  have HP := Lib.hid (pick_is A c B b 0 z 4 (w.alloc (.cells #[] 66)) (by omega) hl hz (hr.kept0 ga (by omega)) hB (hs.keep0 ga) (by decide) (by decide))
  have HO0 := Lib.hid ho0
  have HG0 := Lib.hid ga
  have HR0 := Lib.hid (And.intro (hr.kept0 ga (by omega)) ga)
  have HBW := Lib.hid hbw
  clear hs ga ho0 hr
  go_enter Try.func101, Try.ntmps101
  go_wp2_with fail
  refine HP.out.mono ?_
  rintro e w1 ⟨t, t0, t1, rfl, s1, g1⟩
  have o1 := own_away HO0.out g1 hbw
  have r1 := keepR HR0.out.1 g1 hB (by simp; omega)
  have gg1 := (gb_any HG0.out (some b)).trans g1
  have HH := Lib.hid (And.intro o1 (And.intro r1 (And.intro gg1 s1)))
  clear HP HO0 HG0 HR0 o1 r1 gg1 s1 g1
  obtain ⟨T, hT⟩ : ∃ T : Nat, 1 + t = (T : Int) := ⟨(1 + t).toNat, by omega⟩
  have hT4 : 1 ≤ T ∧ T ≤ 4 := by omega
  have ht : t = (T : Int) - 1 := by omega
  subst ht
  have hT' : 1 + ((T : Int) - 1) = (T : Int) := by omega
  go_wp2_with fail
  go_loopw [3, 4] (fun v i wr => ∃ (k : Nat) (bs : List Bm), bs.length + k = T ∧ (∀ x ∈ bs, SmB x) ∧ i = .int .i64 k ∧ (∃ O d, v = .slice O bs.length d ∧ wr.ownsRow w.heap.size 66 4 (.slice O bs.length d) bs.length (lst (bcell bs) (bs.length * 4))) ∧ Src wr b A z.length c (2 + bs.length * 8) ∧ Rd wr B A z.length (bt z) ∧ w.grownBy wr (some b)) (fun _ i _ => (intOf i).toNat)
  case atStart => exact ⟨T, [], by simp, by simp, rfl, ⟨_, _, rfl, HH.out.1⟩, HH.out.2.2.2, HH.out.2.1, HH.out.2.2.1⟩
  case round =>
    obtain ⟨k, bs, hkT, hsm, rfl, ⟨O, dd, rfl, hown⟩, hsrc, hrr, hg⟩ := hrel
    by_cases hk : 0 < k
    · have k0 : (0 : Int) < (k : Int) := by omega
      have HP1 := Lib.hid (pick_is A c B b (2 + bs.length * 8) z 61 wr (by omega) hl hz hrr hB hsrc (by decide) (by decide))
      have HS := Lib.hid (And.intro hown (And.intro hrr (And.intro hg hsrc)))
      have HSM := Lib.hid hsm
      clear hown hsrc hrr hg hsm
      go_wp2_with fail
      refine HP1.out.mono ?_
      rintro e w2 ⟨v1, v10, v11, rfl, s2, g2⟩
      have hb2 := s2.lt
      have hbr := HS.out.2.2.2.lt
      have G2 := HS.out.2.2.1.trans g2
      have R2 := keepR HS.out.2.1 g2 hB hbr
      have O2 := own_away HS.out.1 g2 hbw
      have ga := World.grownBy_alloc w2 (.cells #[.int .i64 (v1 - 30), .int .i64 0, .int .i64 0, .int .i64 0] 66) none
      have hqw : w.heap.size ≤ w2.heap.size := G2.size
      have bg3 : Bg w (w2.alloc (.cells #[.int .i64 (v1 - 30), .int .i64 0, .int .i64 0, .int .i64 0] 66)) b B w2.heap.size A z c (2 + bs.length * 8 + 2) bs O dd (v1 - 30) 0 0 0 :=
        ⟨hbw, hqw, hB, own_kept0 O2 ga, fun e => by have := own_base O2 _ e; omega, s2.keep0 ga, R2.kept0 ga (by omega), G2.trans (gb_any ga _), Qb.new w2 (v1 - 30) 0 0 0⟩
      have HS3 := Lib.hid bg3
      clear HS HP1 s2 g2 G2 R2 O2 ga bg3 hbr hb2
      go_wp2_with fail
      generalize (w2.alloc (.cells #[.int .i64 (v1 - 30), .int .i64 0, .int .i64 0, .int .i64 0] 66)) = w3 at *
      generalize w2.heap.size = q at *
      have b3 := HS3.out
      refine (pick_is A c B b _ z 61 w3 (by omega) hl hz b3.rd hB b3.src (by decide) (by decide)).mono ?_
      rintro e w4 ⟨v2, v20, v21, rfl, s4, g4⟩
      have b4 := b3.pick g4 s4
      obtain ⟨a0, a1, a2, a3⟩ := b4.qb.cells
      have e1 := b4.qb.ice 1
      obtain ⟨Q5, p5⟩ := b4.qb.put1 (v2 - 30)
      have HS5 := Lib.hid (b4.put p5 Q5)
      clear HS3 b3 s4 g4 b4 Q5 p5
      go_wp2_with fail
      clear a0 a1 a2 a3 e1
      generalize (w4.setCell ⟨q, 1, none⟩ (.int .i64 (v2 - 30))) = w5 at *
      have b5 := HS5.out
      refine (pick_is A c B b _ z 4 w5 (by omega) hl hz b5.rd hB b5.src (by decide) (by decide)).mono ?_
      rintro e w6 ⟨v3, v30, v31, rfl, s6, g6⟩
      have b6 := b5.pick g6 s6
      obtain ⟨a0, a1, a2, a3⟩ := b6.qb.cells
      have e2 := b6.qb.ice 2
      obtain ⟨Q7, p7⟩ := b6.qb.put2 (1 + v3)
      have b7 := b6.put p7 Q7
      have HS7 := Lib.hid b7
      have d7 := b7.drawn 1
      have HD7 := Lib.hid d7
      have c2 := b7.qb.cells.2.2.1
      clear HS5 b5 s6 g6 b6 Q7 p7 d7 b7
      go_wp2_with fail
      generalize (w6.setCell ⟨q, 2, none⟩ (.int .i64 (1 + v3))) = w7 at *
      have c2 : w7.drew.cell? ⟨q, 2, none⟩ = some (.int .i64 (1 + v3)) := c2
      have hqb : ¬ q = b := by omega
      have hsum : ∀ y : Int, 0 ≤ y → y < 20 → IntKind.i64.wrap (1 + v3 + y) = 1 + v3 + y := fun y h1 h2 => by rw [IntKind.wrap_i64]; omega
      clear a0 a1 a2 a3 e2
      go_region_held3 (fun w' => w'.cell? ⟨q, 2, none⟩ = some (.int .i64 (1 + v3)))
        (first
          | exact c2
          | exact hg.cell (by assumption) (by simp [hqb])
          | exact hk8)
        (first
          | (go_at_call 128; refine (pick_is A c B b _ z 20 w7.drew (by omega) hl hz HD7.out.rd hB HD7.out.src (by decide) (by decide)).mono ?_; rintro e w8 ⟨v4, v40, v41, rfl, s8, hg⟩; have b8 := HD7.out.pick hg s8; have a3 := b8.qb.cells.2.2.2; have e3 := b8.qb.ice 3; obtain ⟨Q9, p9⟩ := b8.qb.put3 (1 + v3 + v4); have hk8 := Q9.cells.2.2.1; have hs := hsum v4 v40 v41; have HS9 := Lib.hid (b8.put p9 Q9); clear s8 b8 Q9 p9))
      generalize (w8.setCell ⟨q, 3, none⟩ (.int .i64 (1 + v3 + v4))) = w9 at *
      have hsmb : SmB (v1 - 30, v2 - 30, 1 + v3, 1 + v3 + v4) := ⟨⟨by show _ ≤ v1 - 30; omega, by show v1 - 30 ≤ _; omega⟩, ⟨by show _ ≤ v2 - 30; omega, by show v2 - 30 ≤ _; omega⟩, ⟨by show 1 ≤ 1 + v3; omega, by show 1 + v3 ≤ 4; omega⟩, ⟨by show 1 + v3 ≤ 1 + v3 + v4; omega, by show 1 + v3 + v4 ≤ 1 + v3 + 19; omega⟩⟩
      have HSB := Lib.hid (smb_snoc HSM.out hsmb)
      have hsn := bcell_snoc bs (v1 - 30) (v2 - 30) (1 + v3) (1 + v3 + v4)
      have HSN := Lib.hid hsn
      have b9 := HS9.out
      obtain ⟨a0, a1, a2, a3⟩ := b9.qb.cells
      have ho9 := b9.own
      have hs9 : w.heap.size ≤ w9.heap.size := Nat.le_trans b9.qw (Nat.le_of_lt b9.qb.lt)
      clear HS7 HD7 c2 hk8 hs hsum hsmb hsn b9 HSM
      generalize v1 - 30 = u at *
      generalize v2 - 30 = v at *
      generalize 1 + v3 + v4 = s at *
      generalize 1 + v3 = d at *
      have hb4 : bs.length + 1 ≤ 4 := by omega
      go_wp2_with (at_builtin; refine wpList_append_own _ rfl _ _ 49 rfl w.heap.size 66 i0 (.agg #[.int .i64 0, .int .i64 0, .int .i64 0, .int .i64 0]) 4 32 Try.underlying49 hi0 hz0 hz1 hz2 rfl (by decide) _ _ _ rfl (ho9.alloc _) ⟨w9.heap.size, 0, none⟩ 1 1 [.int .i64 u, .int .i64 v, .int .i64 d, .int .i64 s] rfl rfl (World.news_of_block (cs := #[.int .i64 u, .int .i64 v, .int .i64 d, .int .i64 s]) (t := 66) (fr := (0, 0)) (heap_alloc_new w9 _)) (by intro x hx; simp at hx; rcases hx with rfl | rfl | rfl | rfl <;> rfl) (by unfold maxLen; omega) (by omega) (by simp; omega) ?_; intro v' wz hown' hgrow _)
      refine ⟨?_, by simp [intOf]; omega⟩
      have b9 := HS9.out
      have ga := World.grownBy_alloc w9 (.cells #[.int .i64 u, .int .i64 v, .int .i64 d, .int .i64 s] 66) none
      have hge : ∀ g, (Value.slice O bs.length dd).ownBlock = some g → w.heap.size ≤ g := fun g e => (b9.own.lt g e).1
      obtain ⟨A', c', rfl⟩ := own_form hown'
      rw [← HSN.out] at hown'
      have hbw2 : b < w.heap.size := b9.bw
      exact ⟨k - 1, bs ++ [(u, v, d, s)], by simp; omega, HSB.out, by congr 1; omega, ⟨A', c', by simp, by simpa using hown'⟩,
        ((b9.src.keep0 ga).keep hgrow (fun e => by have := hge b e.symm; omega)).mono (by simp; omega),
        (b9.rd.kept0 ga (Nat.le_trans hB (Nat.le_of_lt b9.src.lt))).kept hgrow (Nat.le_trans hB (Nat.le_trans (Nat.le_of_lt b9.src.lt) ga.size)) (fun x _ hx e => by have := hge x e.symm; omega),
        gb_new2 (b9.gb.trans (gb_any ga _)) hgrow hge⟩
    · obtain rfl : k = 0 := by omega
      have HO := Lib.hid (And.intro hown hg)
      have HS := Lib.hid hsm
      have hln : bs.length = T := by omega
      clear hown hsrc hrr hg hsm
      go_wp2_with fail
      go_ret
      exact ⟨bs, O, dd, HS.out, by omega, by omega, rfl, HO.out.1, HO.out.2⟩
set_option maxHeartbeats 1000000 in
theorem beams_b10 (A : Option Addr) (c : Nat) (z : List Int) (w : World) (hl : z.length ≤ 1048576) (hz : Byt z) (hr : Rd w w.heap.size A z.length (bt z)) :
    Calls Try.prog 25 #[.slice A z.length c] w fun e w' => ∃ (bs : List Bm) (A' : Option Addr) (c' : Nat), (∀ x ∈ bs, SmB x) ∧ 1 ≤ bs.length ∧ bs.length ≤ 4 ∧ e = .returned (.slice A' bs.length c') ∧ w'.ownsRow w.heap.size 66 4 (.slice A' bs.length c') bs.length (lst (bcell bs) (bs.length * 4)) ∧ w.grownBy w' none := by
  go_enter Try.func25, Try.ntmps25
  go_wp2_with fail
  refine (from_is A z.length c w).mono ?_
  rintro e w0 ⟨rfl, hs0, hg0⟩
  have HD := Lib.hid (draw_beams A c w.heap.size w.heap.size z w0 hl hz (hr.kept0 hg0 (Nat.le_refl _)) (Nat.le_refl _) hs0)
  have hlt := hs0.lt
  clear hr hs0
  go_wp2_with fail
  refine HD.out.mono ?_
  rintro e w1 ⟨bs, A1, c1, hsm, h1, h4, rfl, ho, hg⟩
  have HO := Lib.hid (own_mono ho (Nat.le_of_lt hlt))
  have HG := Lib.hid (gb_new hg0 hg (fun g e => by injection e with e; omega))
  clear ho hg
  go_wp2_with fail
  go_ret
  exact ⟨bs, A1, c1, hsm, h1, h4, rfl, HO.out, HG.out⟩

end Go.Proofs.Ytbefoiikbbjjfaa.drawB
