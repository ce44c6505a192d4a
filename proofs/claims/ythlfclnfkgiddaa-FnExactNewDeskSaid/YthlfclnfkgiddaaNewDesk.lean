/- The law on NewDesk answers true. No condition. -/
import Derived.Test.YthlfclnfkgiddaaRows
import Derived.Test.YthlfclnfkgiddaaSlc
import Derived.Test.YthlfclnfkgiddaaSmall
import Derived.Test.YthlfclnfkgiddaaOpens
import Derived.Test.YthlfclnfkgiddaaFloats
import Derived.Test.YthlfclnfkgiddaaRound
import Derived.Test.YthlfclnfkgiddaaValues
import Derived.Test.YthlfclnfkgiddaaConv
import Derived.Test.YthlfclnfkgiddaaFWalk
import Derived.Test.YthlfclnfkgiddaaListP
import Derived.WalkKit
import Derived.ProofKit
import Derived.OpenShut
import Derived.ShutString
import Derived.ChangeOld
import Derived.Below
import Derived.Lib.Hide
import Derived.BigQuiet
import Derived.Deep.QuietTactic
import Derived.WalkLawsBesides
import Derived.Outline
import Derived.Deep.LoopGhost
import Derived.Deep.RegionHeld3
import Derived.Laws.ComplexArith
import Derived.Laws.FloatArith
namespace Go.Proofs.Ythlfclnfkgiddaa.newDesk
open Go.ChangeShapes Go.WideShapes Go.ChangeAt Go.RowKit
open Go.ChangeMaps (open_string shut_string)
set_option linter.unusedVariables false
theorem own : ownKnob Try.prog.godebug = none := by kernel_rfl
theorem laidOut : laidOutB Try.prog = true := by kernel_rfl
open Go Ieee Go.RowKit
open Go.Proofs.Ythlfclnfkgiddaa.slc Go.Proofs.Ythlfclnfkgiddaa.small Go.Proofs.Ythlfclnfkgiddaa.opens Go.Proofs.Ythlfclnfkgiddaa.listP Go.Proofs.Ythlfclnfkgiddaa.fWalk

theorem eqSS (A A' : Option Addr) (c d : Nat) (w : World) : Calls Try.prog 12 #[.slice A 0 c, .slice A' 0 d] w fun e w' => e = .returned (.bool true) ∧ w = w' := by
  go_enter Try.func12, Try.ntmps12
  go_wp2
  go_loopw [5] (fun i wr => i = .int .i64 0 ∧ w = wr) (fun _ _ => 0)
  case atStart => exact ⟨rfl, rfl⟩
  case round =>
    obtain ⟨rfl, rfl⟩ := hrel
    go_wp2
    go_ret
    exact ⟨rfl, rfl⟩
theorem markSS (A : Option Addr) (c : Nat) (k : Int) (w : World) : Calls Try.prog 15 #[.slice A 0 c, .int .i64 k] w fun e w' => e = .returned (.int .i64 k) ∧ w = w' := by
  go_enter Try.func15, Try.ntmps15
  go_wp2
  go_loopw [1, 5] (fun m i wr => i = .int .i64 0 ∧ m = .int .i64 k ∧ w = wr) (fun _ _ _ => 0)
  case atStart => exact ⟨rfl, rfl, rfl⟩
  case round =>
    obtain ⟨rfl, rfl, rfl⟩ := hrel
    go_wp2
    go_ret
    exact ⟨rfl, rfl⟩
theorem heldSS (A : Option Addr) (c : Nat) (k : Int) (w : World) : Calls Try.prog 18 #[.slice A 0 c, .int .i64 k] w fun e w' => e = .returned (.int .i64 k) ∧ w = w' := by
  go_enter Try.func18, Try.ntmps18
  go_wp2
  go_loopw [1, 5] (fun m i wr => i = .int .i64 0 ∧ m = .int .i64 k ∧ w = wr) (fun _ _ _ => 0)
  case atStart => exact ⟨rfl, rfl, rfl⟩
  case round =>
    obtain ⟨rfl, rfl, rfl⟩ := hrel
    go_wp2
    go_ret
    exact ⟨rfl, rfl⟩
theorem run_ff {P : Program} (w : World) (src dst : FloatKind) (b r : Nat) (h : floatToFloatBits src b dst = some r) : (Conv.floatToFloat src b dst).run P w = .ok (.float dst r) w := by
  unfold floatToFloatBits at h
  split at h
  · rename_i e; cases h
    simp [Conv.floatToFloat, e]
  · rename_i ne
    split at h
    · cases h
    · rename_i sg he; cases h
      simp [Conv.floatToFloat, ne, he]
    · rename_i sg m e he
      split at h
      · cases h
      · rename_i hin; cases h
        simp [Conv.floatToFloat, ne, he, hin]
theorem cvA (w : World) : (convert 33 42 (.complex .f32 1065353216 0)).run Try.prog w = .ok (.complex .f64 4607182418800017408 0) w := by
  have h1 := run_ff (P := Try.prog) w .f32 .f64 1065353216 4607182418800017408 (by decide +kernel)
  have h2 := run_ff (P := Try.prog) w .f32 .f64 0 0 (by decide +kernel)
  simp [convert, run_underlying Try.underlying33, run_underlying Try.underlying42, Conv.complexToComplex, h1, h2]
theorem cvM (w : World) : (convert 42 33 (.complex .f64 (floatOfInt .f64 3) 4607182418800017408)).run Try.prog w = .ok (.complex .f32 1077936128 1065353216) w := by
  have h1 := run_ff (P := Try.prog) w .f64 .f32 (floatOfInt .f64 3) 1077936128 (by decide +kernel)
  have h2 := run_ff (P := Try.prog) w .f64 .f32 4607182418800017408 1065353216 (by decide +kernel)
  simp [convert, run_underlying Try.underlying33, run_underlying Try.underlying42, Conv.complexToComplex, h1, h2]
theorem same_1 (a b : Nat) (w : World) : Calls Try.prog 20 #[.complex .f64 a b, .complex .f64 a b] w fun e w' => e = .returned (.bool true) ∧ w.grownBy w' none := by
  go_enter Try.func20, Try.ntmps20
  go_wp2_with fail
  refine (same_float _ _ _ rfl).mono ?_
  rintro e w' ⟨rfl, n, rfl⟩
  go_wp2_with fail
  refine (same_float _ _ _ rfl).mono ?_
  rintro e w' ⟨rfl, m, rfl⟩
  go_wp2_with fail
  go_ret
  exact ⟨rfl, gb_drewN _ _ _⟩
set_option maxHeartbeats 800000 in
set_option maxRecDepth 100000 in
theorem eqW (p q c d : Nat) (w : World) (hp : w.cell? ⟨p, 0, none⟩ = some (.complex .f32 1065353216 0)) (hq : w.cell? ⟨q, 0, none⟩ = some (.complex .f32 1065353216 0)) :
    Calls Try.prog 11 #[.slice (some ⟨p, 0, none⟩) 1 c, .slice (some ⟨q, 0, none⟩) 1 d] w fun e w' => e = .returned (.bool true) ∧ w.grownBy w' none := by
  go_enter Try.func11, Try.ntmps11
  go_wp2
  go_loopw [5] (fun i wr => ∃ k : Nat, k ≤ 1 ∧ i = .int .i64 k ∧ w.grownBy wr none) (fun i _ => 1 - (intOf i).toNat)
  case atStart => exact ⟨0, Nat.zero_le _, rfl, World.grownBy.refl _ _⟩
  case round =>
    obtain ⟨k, hk, rfl, hg⟩ := hrel
    by_cases hlt : k = 0
    · subst hlt
      have hc := hg.cell hp (by simp)
      have hd := hg.cell hq (by simp)
      have hcv := cvA
      have HG := Lib.hid hg
      clear hg hp hq
      go_wp2
      go_region_held3 (fun w' => w'.cell? ⟨p, 0, none⟩ = some (.complex .f32 1065353216 0) ∧ w'.cell? ⟨q, 0, none⟩ = some (.complex .f32 1065353216 0) ∧ wr.grownBy w' none)
        (first
          | (go_split_ands
             exact ⟨hg5.cell (by assumption) (by simp), hg5.cell (by assumption) (by simp), World.grownBy.trans (by assumption) hg5⟩)
          | exact ⟨hc, hd, gb_drewN wr 1 none⟩)
        ((go_at_call 20; refine (same_1 _ _ _).mono ?_; rintro e w' ⟨rfl, hg5⟩))
      obtain ⟨_, _, hfin⟩ : (w'.cell? ⟨p, 0, none⟩ = some (.complex .f32 1065353216 0) ∧ w'.cell? ⟨q, 0, none⟩ = some (.complex .f32 1065353216 0) ∧ wr.grownBy w' none) := by assumption
      go_wp2
      go_roundw
      case rel => exact ⟨1, by omega, by go_num, HG.out.trans hfin⟩
      case measure => simp [intOf]
    · obtain rfl : k = 1 := by omega
      go_wp2
      go_ret
      exact ⟨rfl, hg⟩
theorem run_store_complex {P : Program} {w : World} {m : Mode} (a : Addr) (k : FloatKind) (x y : Nat) : (store a (.complex k x y) m).run P w = stored P w a (.complex k x y) m := run_store P w a _ m rfl
attribute [local go_sem] run_store_complex
set_option maxRecDepth 100000 in
theorem markW (p c : Nat) (w : World) (x : Value) (hp : w.cell? ⟨p, 0, none⟩ = some x) (hf : w.frozen? ⟨p, 0, none⟩ = false) :
    Calls Try.prog 14 #[.slice (some ⟨p, 0, none⟩) 1 c, .int .i64 3] w fun e w' => e = .returned (.int .i64 4) ∧ w' = w.setCell ⟨p, 0, none⟩ (.complex .f32 1077936128 1065353216) := by
  have hcv := cvM
  go_enter Try.func14, Try.ntmps14
  go_wp2
  go_loopw [1, 5] (fun m i wr => (i = .int .i64 0 ∧ m = .int .i64 3 ∧ w = wr) ∨ (i = .int .i64 1 ∧ m = .int .i64 4 ∧ wr = w.setCell ⟨p, 0, none⟩ (.complex .f32 1077936128 1065353216))) (fun _ i _ => 1 - (intOf i).toNat)
  case atStart => exact .inl ⟨rfl, rfl, rfl⟩
  case round =>
    rcases hrel with ⟨rfl, rfl, rfl⟩ | ⟨rfl, rfl, rfl⟩
    · go_wp2
      go_roundw
      case rel => simp
      case measure => simp [intOf]
    · go_wp2
      go_ret
      exact ⟨rfl, rfl⟩
theorem heldW (p c : Nat) (w : World) (hp : w.cell? ⟨p, 0, none⟩ = some (.complex .f32 1077936128 1065353216)) :
    Calls Try.prog 17 #[.slice (some ⟨p, 0, none⟩) 1 c, .int .i64 3] w fun e w' => e = .returned (.int .i64 4) ∧ w = w' := by
  have hcv := cvM
  have ho1 : (FloatKind.f32.format.order 1077936128 1077936128 == some .eq) = true := by decide +kernel
  have ho2 : (FloatKind.f32.format.order 1065353216 1065353216 == some .eq) = true := by decide +kernel
  go_enter Try.func17, Try.ntmps17
  go_wp2
  go_loopw [1, 5] (fun m i wr => (i = .int .i64 0 ∧ m = .int .i64 3 ∧ w = wr) ∨ (i = .int .i64 1 ∧ m = .int .i64 4 ∧ w = wr)) (fun _ i _ => 1 - (intOf i).toNat)
  case atStart => exact .inl ⟨rfl, rfl, rfl⟩
  case round =>
    rcases hrel with ⟨rfl, rfl, rfl⟩ | ⟨rfl, rfl, rfl⟩
    · go_wp2
      go_roundw
      case rel => simp
      case measure => simp [intOf]
    · go_wp2
      go_ret
      exact ⟨rfl, rfl⟩
/-- What a call that returns a new desk leaves. -/
def NDP (w : World) (e : Ending) (w' : World) : Prop := ∃ p1 p2 Z, e = .returned (.agg #[.slice (some ⟨p1, 0, none⟩) 1 1, .slice (some ⟨p2, 0, none⟩) 1 1, .slice Z 0 0]) ∧ w.heap.size ≤ p1 ∧ p1 < p2 ∧ p2 < w'.heap.size ∧ w'.ownsRow w.heap.size 32 2 (.slice (some ⟨p1, 0, none⟩) 1 1) 1 (lst (pcell [(0, 0)]) (1 * 2)) ∧ w'.ownsRow w.heap.size 33 1 (.slice (some ⟨p2, 0, none⟩) 1 1) 1 [.complex .f32 1065353216 0] ∧ w.grownBy w' none
set_option maxRecDepth 100000 in
theorem newI (w : World) : Calls Try.prog 5 #[] w fun e w' => NDP w e w' := by
  go_enter Try.func5, Try.ntmps5
  go_wp2_with fail
  obtain ⟨u1, hu1⟩ : ∃ u, w.alloc (.cells #[.slice (some ⟨w.heap.size + 1, 0, none⟩) 1 1, .slice (some ⟨w.heap.size + 1 + 1, 0, none⟩) 1 1, .slice none 0 0] 26) = u := ⟨_, rfl⟩
  have hn := heap_alloc_new w (.cells #[.slice (some ⟨w.heap.size + 1, 0, none⟩) 1 1, .slice (some ⟨w.heap.size + 1 + 1, 0, none⟩) 1 1, .slice none 0 0] 26)
  have g1 := World.grownBy_alloc w (.cells #[.slice (some ⟨w.heap.size + 1, 0, none⟩) 1 1, .slice (some ⟨w.heap.size + 1 + 1, 0, none⟩) 1 1, .slice none 0 0] 26) none
  rw [hu1] at hn g1
  have s1 : u1.heap.size = w.heap.size + 1 := by rw [← hu1]; simp
  have r2 := World.ownsRow_lit (base := w.heap.size) (e := 32) (size := 2) u1 #[.int .i64 0, .int .i64 0] 1 (by omega) (by decide) rfl
  have g2 := World.grownBy_alloc u1 (.cells #[.int .i64 0, .int .i64 0] 32) none
  have s2 : (u1.alloc (.cells #[.int .i64 0, .int .i64 0] 32)).heap.size = w.heap.size + 1 + 1 := by simp [s1]
  have r3 := World.ownsRow_lit (base := w.heap.size) (e := 33) (size := 1) (u1.alloc (.cells #[.int .i64 0, .int .i64 0] 32)) #[.complex .f32 1065353216 0] 1 (by omega) (by decide) rfl
  have g3 := World.grownBy_alloc (u1.alloc (.cells #[.int .i64 0, .int .i64 0] 32)) (.cells #[.complex .f32 1065353216 0] 33) none
  have gs := g2.trans g3
  have r2 := own_kept0 r2 g3
  rw [s1] at r2
  rw [s2] at r3
  have c0 := gs.cell (cell_of_row u1 _ 0 _ _ _ hn) (by simp)
  have c1 := gs.cell (cell_of_row u1 _ 1 _ _ _ hn) (by simp)
  have c2 := gs.cell (cell_of_row u1 _ 2 _ _ _ hn) (by simp)
  have hsz := gs.size
  rw [hu1]
  exact bodyPost_ret (v := .agg #[.slice (some ⟨w.heap.size + 1, 0, none⟩) 1 1, .slice (some ⟨w.heap.size + 1 + 1, 0, none⟩) 1 1, .slice none 0 0]) (by simp [results, Try.results5, go_sem, c0, c1, c2]) rfl ⟨_, _, _, rfl, by omega, by omega, by simp [s1], r2, r3, g1.trans gs⟩
set_option maxRecDepth 100000 in
theorem new0 (w : World) : Calls Try.prog 9 #[] w fun e w' => NDP w e w' := by
  go_enter Try.func9, Try.ntmps9
  go_wp2_with fail
  obtain ⟨u1, hu1⟩ : ∃ u, w.alloc (.cells #[.slice (some ⟨w.heap.size + 1, 0, none⟩) 1 1, .slice (some ⟨w.heap.size + 1 + 1, 0, none⟩) 1 1, .slice (some ⟨w.heap.size + 1 + 1 + 1, 0, none⟩) 0 0] 26) = u := ⟨_, rfl⟩
  have hn := heap_alloc_new w (.cells #[.slice (some ⟨w.heap.size + 1, 0, none⟩) 1 1, .slice (some ⟨w.heap.size + 1 + 1, 0, none⟩) 1 1, .slice (some ⟨w.heap.size + 1 + 1 + 1, 0, none⟩) 0 0] 26)
  have g1 := World.grownBy_alloc w (.cells #[.slice (some ⟨w.heap.size + 1, 0, none⟩) 1 1, .slice (some ⟨w.heap.size + 1 + 1, 0, none⟩) 1 1, .slice (some ⟨w.heap.size + 1 + 1 + 1, 0, none⟩) 0 0] 26) none
  rw [hu1] at hn g1
  have s1 : u1.heap.size = w.heap.size + 1 := by rw [← hu1]; simp
  have r2 := World.ownsRow_lit (base := w.heap.size) (e := 32) (size := 2) u1 #[.int .i64 0, .int .i64 0] 1 (by omega) (by decide) rfl
  have g2 := World.grownBy_alloc u1 (.cells #[.int .i64 0, .int .i64 0] 32) none
  have s2 : (u1.alloc (.cells #[.int .i64 0, .int .i64 0] 32)).heap.size = w.heap.size + 1 + 1 := by simp [s1]
  have r3 := World.ownsRow_lit (base := w.heap.size) (e := 33) (size := 1) (u1.alloc (.cells #[.int .i64 0, .int .i64 0] 32)) #[.complex .f32 1065353216 0] 1 (by omega) (by decide) rfl
  have g3 := World.grownBy_alloc (u1.alloc (.cells #[.int .i64 0, .int .i64 0] 32)) (.cells #[.complex .f32 1065353216 0] 33) none
  have g4 := World.grownBy_alloc ((u1.alloc (.cells #[.int .i64 0, .int .i64 0] 32)).alloc (.cells #[.complex .f32 1065353216 0] 33)) (.cells #[] 23) none
  have gs := g2.trans (g3.trans g4)
  have r2 := own_kept0 (own_kept0 r2 g3) g4
  have r3 := own_kept0 r3 g4
  rw [s1] at r2
  rw [s2] at r3
  have c0 := gs.cell (cell_of_row u1 _ 0 _ _ _ hn) (by simp)
  have c1 := gs.cell (cell_of_row u1 _ 1 _ _ _ hn) (by simp)
  have c2 := gs.cell (cell_of_row u1 _ 2 _ _ _ hn) (by simp)
  have hsz := gs.size
  rw [hu1]
  exact bodyPost_ret (v := .agg #[.slice (some ⟨w.heap.size + 1, 0, none⟩) 1 1, .slice (some ⟨w.heap.size + 1 + 1, 0, none⟩) 1 1, .slice (some ⟨w.heap.size + 1 + 1 + 1, 0, none⟩) 0 0]) (by simp [results, Try.results9, go_sem, c0, c1, c2]) rfl ⟨_, _, _, rfl, by omega, by omega, by simp [s1], r2, r3, g1.trans gs⟩
theorem row_base {w : World} {b b' : Nat} {e : TypeId} {size n c : Nat} {A : Option Addr} {xs : List Value} (h : w.ownsRow b e size (.slice A n c) n xs) (hb : b' ≤ b) : w.ownsRow b' e size (.slice A n c) n xs := by
  refine ⟨h.1, ?_⟩
  rcases h.2 with ⟨h1, h2⟩ | ⟨g, cap, cur, h1, h2, h3⟩
  · exact .inl ⟨h1, h2⟩
  · exact .inr ⟨g, cap, cur, h1, Nat.le_trans hb h2, h3⟩
theorem gb_row {W W' : World} {x : Option Nat} (h : W.grownBy W' none) : W.grownBy W' x := ⟨h.os, h.tape, h.output, h.size, fun i hi _ => h.block i hi (by simp)⟩
theorem newS (w : World) : Calls Try.prog 4 #[] w fun e w' => NDP w e w' := by
  have g1 := World.grownBy_alloc w (.cells #[.slice none 0 0, .slice none 0 0, .slice none 0 0] 26) none
  have hn := heap_alloc_new w (.cells #[.slice none 0 0, .slice none 0 0, .slice none 0 0] 26)
  have hf := World.ownsRow_lit (base := w.heap.size) (e := 26) (size := 3) w #[.slice none 0 0, .slice none 0 0, .slice none 0 0] 1 (by omega) (by decide) rfl
  have HF := Lib.hid (And.intro hf (And.intro g1 (show (w.alloc (.cells #[.slice none 0 0, .slice none 0 0, .slice none 0 0] 26)).heap.size = w.heap.size + 1 by simp)))
  clear hf g1 hn
  go_enter Try.func4, Try.ntmps4
  go_wp2_with fail
  refine (new0 _).mono ?_
  rintro e w1 ⟨p1, p2, Z, rfl, b1, b2, b3, r1, r2, g⟩
  obtain ⟨hf, g1, hs⟩ := HF.out
  rw [hs] at b1 r1 r2
  have hf := own_kept0 hf g
  have d0 := hf.cellAt 0 (by decide)
  have d1 := hf.cellAt 1 (by decide)
  have d2 := hf.cellAt 2 (by decide)
  have f0 := hf.frozenAt 0
  have f1 := hf.frozenAt 1
  have f2 := hf.frozenAt 2
  obtain ⟨k1, j1⟩ := hf.stored 0 (.slice (some ⟨p1, 0, none⟩) 1 1)
  obtain ⟨k2, j2⟩ := k1.stored 1 (.slice (some ⟨p2, 0, none⟩) 1 1)
  obtain ⟨k3, j3⟩ := k2.stored 2 (.slice Z 0 0)
  have c0 := k3.cellAt 0 (by decide)
  have c1 := k3.cellAt 1 (by decide)
  have c2 := k3.cellAt 2 (by decide)
  have HR := Lib.hid (And.intro (j1.trans (j2.trans j3)) (And.intro r1 (And.intro r2 (And.intro (g1.trans g) (And.intro c0 (And.intro c1 c2))))))
  clear r1 r2 g g1 c0 c1 c2 k1 k2 k3 j1 j2 j3 hf
  generalize hr : w.heap.size = r at *
  go_wp2_with fail
  obtain ⟨gP, r1, r2, g, c0, c1, c2⟩ := HR.out
  have hsz := gP.size
  exact bodyPost_ret (v := .agg #[.slice (some ⟨p1, 0, none⟩) 1 1, .slice (some ⟨p2, 0, none⟩) 1 1, .slice Z 0 0]) (by simp [results, Try.results4, go_sem, c0, c1, c2]) rfl
    ⟨p1, p2, Z, rfl, by omega, b2, by omega, by rw [hr]; exact row_base (World.ownsRow.kept r1 gP (.inr (fun e => by injection e with e; dsimp only at e; omega))) (Nat.le_succ r), by rw [hr]; exact row_base (World.ownsRow.kept r2 gP (.inr (fun e => by injection e with e; dsimp only at e; omega))) (Nat.le_succ r), gb_new g gP (by intro q e; injection e with e; omega)⟩
theorem bx3 (v w' : World) (a b c : Value) (row : Option Nat) (hg : (v.alloc (.cells #[a, b, c] 26)).grownBy w' row) (hr : row ≠ some v.heap.size) : w'.cell? ⟨v.heap.size, 0, none⟩ = some a ∧ w'.cell? ⟨v.heap.size, 1, none⟩ = some b ∧ w'.cell? ⟨v.heap.size, 2, none⟩ = some c := by
  have hn := heap_alloc_new v (.cells #[a, b, c] 26)
  have ne : ∀ k, some (⟨v.heap.size, k, none⟩ : Addr).block ≠ row := fun k e => hr e.symm
  exact ⟨hg.cell (cell_of_row _ _ 0 _ _ _ hn) (ne 0), hg.cell (cell_of_row _ _ 1 _ _ _ hn) (ne 1), hg.cell (cell_of_row _ _ 2 _ _ _ hn) (ne 2)⟩
theorem pI : Ints (pcell [(0, 0)]) (1 * 2) := pcell_ints _ _
/-- A desk of one place and one weight. -/
abbrev dk (p1 p2 : Nat) (Z : Option Addr) : Value := .agg #[.slice (some ⟨p1, 0, none⟩) 1 1, .slice (some ⟨p2, 0, none⟩) 1 1, .slice Z 0 0]
set_option maxRecDepth 100000 in
theorem eqD (p1 p2 q1 q2 : Nat) (Z Y : Option Addr) (w : World) (h1 : Rd w w.heap.size (some ⟨p1, 0, none⟩) (1 * 2) (pcell [(0, 0)])) (h2 : Rd w w.heap.size (some ⟨q1, 0, none⟩) (1 * 2) (pcell [(0, 0)]))
    (c1 : w.cell? ⟨p2, 0, none⟩ = some (.complex .f32 1065353216 0)) (c2 : w.cell? ⟨q2, 0, none⟩ = some (.complex .f32 1065353216 0)) :
    Calls Try.prog 6 #[dk p1 p2 Z, dk q1 q2 Y] w fun e w' => e = .returned (.bool true) ∧ w.grownBy w' none := by
  have g1 := World.grownBy_alloc w (.cells #[.slice (some ⟨p1, 0, none⟩) 1 1, .slice (some ⟨p2, 0, none⟩) 1 1, .slice Z 0 0] 26) none
  have g2 := World.grownBy_alloc (w.alloc (.cells #[.slice (some ⟨p1, 0, none⟩) 1 1, .slice (some ⟨p2, 0, none⟩) 1 1, .slice Z 0 0] 26)) (.cells #[.slice (some ⟨q1, 0, none⟩) 1 1, .slice (some ⟨q2, 0, none⟩) 1 1, .slice Y 0 0] 26) none
  have g := g1.trans g2
  have B1 := Lib.hid (fun w' hg => bx3 w w' (.slice (some ⟨p1, 0, none⟩) 1 1) (.slice (some ⟨p2, 0, none⟩) 1 1) (.slice Z 0 0) none (g2.trans hg) (by simp))
  have B2 := Lib.hid (fun w' hg => bx3 (w.alloc (.cells #[.slice (some ⟨p1, 0, none⟩) 1 1, .slice (some ⟨p2, 0, none⟩) 1 1, .slice Z 0 0] 26)) w' (.slice (some ⟨q1, 0, none⟩) 1 1) (.slice (some ⟨q2, 0, none⟩) 1 1) (.slice Y 0 0) none hg (by simp))
  have HP := Lib.hid (eqP_true (some ⟨p1, 0, none⟩) (some ⟨q1, 0, none⟩) 1 1 1 w.heap.size (pcell [(0, 0)]) _ (by omega) g.size pI (h1.kept0 g (Nat.le_refl _)) (h2.kept0 g (Nat.le_refl _)))
  have HG := Lib.hid (And.intro g (And.intro c1 c2))
  clear g1 g2 g h1 h2 c1 c2
  go_enter Try.func6, Try.ntmps6
  go_wp2_with fail
  refine HP.out.mono ?_
  rintro e w1 ⟨rfl, k1⟩
  obtain ⟨a0, a1, a2⟩ := B1.out w1 k1
  obtain ⟨b0, b1, b2⟩ := B2.out w1 k1
  simp only [World.size_alloc] at b0 b1 b2
  have KK := Lib.hid k1
  clear k1
  go_wp2_with fail
  refine (eqW p2 q2 1 1 _ ((HG.out.1.trans KK.out).cell HG.out.2.1 (by simp)) ((HG.out.1.trans KK.out).cell HG.out.2.2 (by simp))).mono ?_
  rintro e w2 ⟨rfl, k2⟩
  obtain ⟨a0, a1, a2⟩ := B1.out w2 (KK.out.trans k2)
  obtain ⟨b0, b1, b2⟩ := B2.out w2 (KK.out.trans k2)
  simp only [World.size_alloc] at b0 b1 b2
  have K2 := Lib.hid k2
  clear k2
  go_wp2_with fail
  refine (eqSS _ _ _ _ _).mono ?_
  rintro e w' ⟨rfl, rfl⟩
  go_wp2_with fail
  go_ret
  exact ⟨rfl, HG.out.1.trans (KK.out.trans K2.out)⟩
set_option maxRecDepth 100000 in
theorem markD (p1 p2 : Nat) (Z : Option Addr) (B : Nat) (w : World) (hp : p1 < p2) (h1 : w.ownsRow B 32 2 (.slice (some ⟨p1, 0, none⟩) 1 1) 1 (lst (pcell [(0, 0)]) (1 * 2))) (h2 : w.ownsRow B 33 1 (.slice (some ⟨p2, 0, none⟩) 1 1) 1 [.complex .f32 1065353216 0]) :
    Calls Try.prog 7 #[dk p1 p2 Z, .int .i64 1] w fun e w' => e = .returned (.int .i64 4) ∧ w'.ownsRow B 32 2 (.slice (some ⟨p1, 0, none⟩) 1 1) 1 (lst (mkv 1) (1 * 2)) ∧ w'.cell? ⟨p2, 0, none⟩ = some (.complex .f32 1077936128 1065353216) ∧ (∃ u, w.grownBy u (some p1) ∧ u.grownBy w' (some p2)) := by
  have g1 := World.grownBy_alloc w (.cells #[.slice (some ⟨p1, 0, none⟩) 1 1, .slice (some ⟨p2, 0, none⟩) 1 1, .slice Z 0 0] 26) none
  have l1 := h1.lt p1 rfl
  have l2 := h2.lt p2 rfl
  have B1 := Lib.hid (fun w' hg => bx3 w w' (.slice (some ⟨p1, 0, none⟩) 1 1) (.slice (some ⟨p2, 0, none⟩) 1 1) (.slice Z 0 0) (some p1) hg (by intro e; injection e with e; omega))
  have HP := Lib.hid (markP1 (some ⟨p1, 0, none⟩) 1 1 B 32 (pcell [(0, 0)]) _ (by omega) (own_kept0 h1 g1))
  have HG := Lib.hid (And.intro h2 g1)
  clear g1 h1 h2
  go_enter Try.func7, Try.ntmps7
  go_wp2_with fail
  refine HP.out.mono ?_
  rintro e w1 ⟨rfl, o1, k1⟩
  obtain ⟨a0, a1, a2⟩ := B1.out w1 k1
  have o2 := World.ownsRow.kept (own_kept0 HG.out.1 HG.out.2) k1 (.inr (fun e => by injection e with e; dsimp only at e; omega))
  have c2 := o2.cellAt 0 (by decide)
  have f2 := o2.frozenAt 0
  have hc := (o2.stored 0 (.complex .f32 1077936128 1065353216))
  have HH := Lib.hid (And.intro o1 (And.intro k1 hc))
  clear o1 k1 o2 hc
  go_wp2_with fail
  refine (markW p2 1 _ _ c2 f2).mono ?_
  rintro e w2 ⟨rfl, rfl⟩
  obtain ⟨o1, k1, o3, k3⟩ := HH.out
  have a2' := k3.cell a2 (by intro e; injection e with e; dsimp only at e; omega)
  have HZ := Lib.hid (And.intro (World.ownsRow.kept o1 k3 (.inr (fun e => by injection e with e; dsimp only at e; omega))) (And.intro (o3.cellAt 0 (by decide)) k3))
  clear o1 k1 o3 k3
  generalize w1.setCell ⟨p2, 0, none⟩ (.complex .f32 1077936128 1065353216) = w2 at *
  go_wp2_with fail
  refine (markSS _ _ _ _).mono ?_
  rintro e w' ⟨rfl, rfl⟩
  go_wp2_with fail
  go_ret
  exact ⟨rfl, HZ.out.1, HZ.out.2.1, w1, (gb_row HG.out.2).trans HH.out.2.1, HZ.out.2.2⟩
set_option maxRecDepth 100000 in
theorem heldD (p1 p2 : Nat) (Z : Option Addr) (w : World) (h1 : Rd w w.heap.size (some ⟨p1, 0, none⟩) (1 * 2) (mkv 1)) (c2 : w.cell? ⟨p2, 0, none⟩ = some (.complex .f32 1077936128 1065353216)) :
    Calls Try.prog 8 #[dk p1 p2 Z, .int .i64 1] w fun e w' => e = .returned (.int .i64 4) ∧ w.grownBy w' none := by
  have g1 := World.grownBy_alloc w (.cells #[.slice (some ⟨p1, 0, none⟩) 1 1, .slice (some ⟨p2, 0, none⟩) 1 1, .slice Z 0 0] 26) none
  obtain ⟨a0, a1, a2⟩ := bx3 w _ (.slice (some ⟨p1, 0, none⟩) 1 1) (.slice (some ⟨p2, 0, none⟩) 1 1) (.slice Z 0 0) none (World.grownBy.refl _ _) (by simp)
  have HP := Lib.hid (heldP1 (some ⟨p1, 0, none⟩) 1 1 w.heap.size _ (by omega) (h1.kept0 g1 (Nat.le_refl _)))
  have HG := Lib.hid (And.intro g1 (g1.cell c2 (by simp)))
  clear g1 h1 c2
  go_enter Try.func8, Try.ntmps8
  go_wp2_with fail
  refine HP.out.mono ?_
  rintro e w' ⟨rfl, rfl⟩
  go_wp2_with fail
  refine (heldW p2 1 _ HG.out.2).mono ?_
  rintro e w' ⟨rfl, rfl⟩
  go_wp2_with fail
  refine (heldSS _ _ _ _).mono ?_
  rintro e w' ⟨rfl, rfl⟩
  go_wp2_with fail
  go_ret
  exact ⟨rfl, HG.out.1⟩
theorem dk_cells {w : World} {B n : Nat} {p1 p2 : Nat} {Z : Option Addr} (h : w.ownsRow B 26 3 (.slice (some ⟨n, 0, none⟩) 1 1) 1 [.slice (some ⟨p1, 0, none⟩) 1 1, .slice (some ⟨p2, 0, none⟩) 1 1, .slice Z 0 0]) :
    w.cell? ⟨n, 0, none⟩ = some (.slice (some ⟨p1, 0, none⟩) 1 1) ∧ w.cell? ⟨n, 1, none⟩ = some (.slice (some ⟨p2, 0, none⟩) 1 1) ∧ w.cell? ⟨n, 2, none⟩ = some (.slice Z 0 0) :=
  ⟨h.cellAt 0 (by decide), h.cellAt 1 (by decide), h.cellAt 2 (by decide)⟩
set_option maxHeartbeats 1000000 in
set_option maxRecDepth 100000 in
theorem walk (w : World) : Calls Try.prog 3 #[] w fun e w' => e = .returned (.bool true) ∧ Below w.heap.size w w' := by
  have N0 := Lib.hid newS
  have NI := Lib.hid newI
  go_enter Try.func3, Try.ntmps3
  go_wp2_with fail
  refine (N0.out _).mono ?_
  rintro e v1 ⟨p1, p2, Z, rfl, b1, b2, b3, r1, r2, g1⟩
  have x1 := World.grownBy_alloc v1 (.cells #[.slice (some ⟨p1, 0, none⟩) 1 1, .slice (some ⟨p2, 0, none⟩) 1 1, .slice Z 0 0] 26) none
  have D1 := World.ownsRow_lit (base := v1.heap.size) (e := 26) (size := 3) v1 #[.slice (some ⟨p1, 0, none⟩) 1 1, .slice (some ⟨p2, 0, none⟩) 1 1, .slice Z 0 0] 1 (by omega) (by decide) rfl
  have s1 : (v1.alloc (.cells #[.slice (some ⟨p1, 0, none⟩) 1 1, .slice (some ⟨p2, 0, none⟩) 1 1, .slice Z 0 0] 26)).heap.size = v1.heap.size + 1 := by simp
  have r1 := own_kept0 r1 x1
  have r2 := own_kept0 r2 x1
  have G1 := g1.trans x1
  clear g1 x1
  go_wp2_with fail
  generalize v1.alloc (.cells #[.slice (some ⟨p1, 0, none⟩) 1 1, .slice (some ⟨p2, 0, none⟩) 1 1, .slice Z 0 0] 26) = u1 at *
  generalize v1.heap.size = n1 at *
  refine (NI.out _).mono ?_
  rintro e v2 ⟨q1, q2, Y, rfl, c1, c2, c3, t1, t2, g2⟩
  have x2 := World.grownBy_alloc v2 (.cells #[.slice (some ⟨q1, 0, none⟩) 1 1, .slice (some ⟨q2, 0, none⟩) 1 1, .slice Y 0 0] 26) none
  have D2 := World.ownsRow_lit (base := v2.heap.size) (e := 26) (size := 3) v2 #[.slice (some ⟨q1, 0, none⟩) 1 1, .slice (some ⟨q2, 0, none⟩) 1 1, .slice Y 0 0] 1 (by omega) (by decide) rfl
  have h2 := g2.trans x2
  have D1 := own_kept0 D1 h2
  have r1 := own_kept0 r1 h2
  have r2 := own_kept0 r2 h2
  have t1 := own_kept0 t1 x2
  have t2 := own_kept0 t2 x2
  have G2 := G1.trans h2
  clear g2 x2 h2 G1
  obtain ⟨a0, a1, a2⟩ := dk_cells D1
  obtain ⟨d0, d1, d2⟩ := dk_cells D2
  have KK := Lib.hid (And.intro D1 (And.intro D2 (And.intro r1 (And.intro r2 (And.intro t1 (And.intro t2 G2))))))
  clear D1 D2 r1 r2 t1 t2 G2
  go_wp2_with fail
  generalize v2.alloc (.cells #[.slice (some ⟨q1, 0, none⟩) 1 1, .slice (some ⟨q2, 0, none⟩) 1 1, .slice Y 0 0] 26) = u2 at *
  generalize v2.heap.size = n2 at *
  obtain ⟨D1, D2, r1, r2, t1, t2, G2⟩ := KK.out
  refine (eqD q1 q2 p1 p2 Y Z u2 (Rd.of_lst t1 rfl) (Rd.of_lst r1 rfl) (t2.cellAt 0 (by decide)) (r2.cellAt 0 (by decide))).mono ?_
  rintro e v3 ⟨rfl, g3⟩
  have D1 := own_kept0 D1 g3
  have D2 := own_kept0 D2 g3
  have r1 := own_kept0 r1 g3
  have r2 := own_kept0 r2 g3
  have t1 := own_kept0 t1 g3
  have t2 := own_kept0 t2 g3
  have G3 := G2.trans g3
  obtain ⟨d0, d1, d2⟩ := dk_cells D2
  have KK := Lib.hid (And.intro D1 (And.intro D2 (And.intro r1 (And.intro r2 (And.intro t1 (And.intro t2 G3))))))
  clear D1 D2 r1 r2 t1 t2 G2 g3 G3 a0 a1 a2
  go_wp2_with fail
  obtain ⟨D1, D2, r1, r2, t1, t2, G3⟩ := KK.out
  refine (markD q1 q2 Y _ v3 c2 t1 t2).mono ?_
  rintro e v4 ⟨rfl, m1, m2, u, k1, k2⟩
  have hq : n1 + 1 ≤ q1 := by omega
  have D1 := World.ownsRow.kept (World.ownsRow.kept D1 k1 (.inr (fun e => by injection e with e; dsimp only at e; omega))) k2 (.inr (fun e => by injection e with e; dsimp only at e; omega))
  have D2 := World.ownsRow.kept (World.ownsRow.kept D2 k1 (.inr (fun e => by injection e with e; dsimp only at e; omega))) k2 (.inr (fun e => by injection e with e; dsimp only at e; omega))
  have r1 := World.ownsRow.kept (World.ownsRow.kept r1 k1 (.inr (fun e => by injection e with e; dsimp only at e; omega))) k2 (.inr (fun e => by injection e with e; dsimp only at e; omega))
  have r2 := World.ownsRow.kept (World.ownsRow.kept r2 k1 (.inr (fun e => by injection e with e; dsimp only at e; omega))) k2 (.inr (fun e => by injection e with e; dsimp only at e; omega))
  have G4 := gb_new (gb_new G3 k1 (by intro q e; injection e with e; omega)) k2 (by intro q e; injection e with e; omega)
  obtain ⟨d0, d1, d2⟩ := dk_cells D2
  have KK := Lib.hid (And.intro D1 (And.intro D2 (And.intro r1 (And.intro r2 (And.intro m1 (And.intro m2 G4))))))
  clear D1 D2 r1 r2 t1 t2 G3 k1 k2 m1 m2 G4
  go_wp2_with fail
  obtain ⟨D1, D2, r1, r2, m1, m2, G4⟩ := KK.out
  refine (heldD q1 q2 Y v4 (Rd.of_lst m1 rfl) m2).mono ?_
  rintro e v5 ⟨rfl, g5⟩
  have D1 := own_kept0 D1 g5
  have D2 := own_kept0 D2 g5
  have r1 := own_kept0 r1 g5
  have r2 := own_kept0 r2 g5
  have m1 := own_kept0 m1 g5
  have m2 := g5.cell m2 (by simp)
  have KK := Lib.hid (And.intro D1 (And.intro D2 (And.intro r1 (And.intro r2 (And.intro m1 (And.intro m2 (G4.trans g5)))))))
  clear D1 D2 r1 r2 m1 m2 G4 g5 d0 d1 d2
  go_wp2_with fail
  obtain ⟨D1, D2, r1, r2, m1, m2, G5⟩ := KK.out
  refine (NI.out _).mono ?_
  rintro e v6 ⟨h1, h2, X, rfl, c6, c7, c8, t1, t2, g6⟩
  have x6 := World.grownBy_alloc v6 (.cells #[.slice (some ⟨h1, 0, none⟩) 1 1, .slice (some ⟨h2, 0, none⟩) 1 1, .slice X 0 0] 26) none
  have D6 := World.ownsRow_lit (base := v6.heap.size) (e := 26) (size := 3) v6 #[.slice (some ⟨h1, 0, none⟩) 1 1, .slice (some ⟨h2, 0, none⟩) 1 1, .slice X 0 0] 1 (by omega) (by decide) rfl
  have h6 := g6.trans x6
  have D1 := own_kept0 D1 h6
  have D2 := own_kept0 D2 h6
  have r1 := own_kept0 r1 h6
  have r2 := own_kept0 r2 h6
  have m1 := own_kept0 m1 h6
  have m2 := h6.cell m2 (by simp)
  have t1 := own_kept0 t1 x6
  have t2 := own_kept0 t2 x6
  obtain ⟨a0, a1, a2⟩ := dk_cells D1
  obtain ⟨d0, d1, d2⟩ := dk_cells D6
  have KK := Lib.hid (And.intro D2 (And.intro r1 (And.intro r2 (And.intro m1 (And.intro m2 (And.intro t1 (And.intro t2 (G5.trans h6))))))))
  clear D1 D2 D6 r1 r2 m1 m2 t1 t2 G5 h6 x6 g6
  go_wp2_with fail
  generalize v6.alloc (.cells #[.slice (some ⟨h1, 0, none⟩) 1 1, .slice (some ⟨h2, 0, none⟩) 1 1, .slice X 0 0] 26) = u6 at *
  generalize v6.heap.size = n6 at *
  obtain ⟨D2, r1, r2, m1, m2, t1, t2, G6⟩ := KK.out
  refine (eqD h1 h2 p1 p2 X Z u6 (Rd.of_lst t1 rfl) (Rd.of_lst r1 rfl) (t2.cellAt 0 (by decide)) (r2.cellAt 0 (by decide))).mono ?_
  rintro e v7 ⟨rfl, g7⟩
  have D2 := own_kept0 D2 g7
  have m1 := own_kept0 m1 g7
  have m2 := g7.cell m2 (by simp)
  obtain ⟨d0, d1, d2⟩ := dk_cells D2
  have HH := Lib.hid (And.intro m1 (And.intro m2 (G6.trans g7)))
  clear D2 m1 m2 G6 g7 r1 r2 t1 t2
  go_wp2_with fail
  refine (heldD q1 q2 Y v7 (Rd.of_lst HH.out.1 rfl) HH.out.2.1).mono ?_
  rintro e v8 ⟨rfl, g8⟩
  have HZ := Lib.hid (HH.out.2.2.trans g8)
  clear g8
  go_wp2_with fail
  go_ret
  exact ⟨rfl, gb_below HZ.out⟩

set_option maxRecDepth 100000 in
theorem lifted (os : Os) (started : os.Started) (H : Type) (enc : TypeId × Value → H) :
    ReturnsInHanded {} Try.checked os 3 .any (Rows.fnExactNewDeskSpec.pre6 enc Try.prog Try.f3 Rows.fnExactNewDeskRow.domain false) (Rows.fnExactNewDeskSpec.post enc Try.prog Try.f3 false true false false) := by
  refine returnsInHanded_of_change (C := Try.checked) own started (by kernel_rfl) Try.func3
    (ChangeSpec.witness6 (enc := enc) (C := Try.checked) false ⟨#[], #[], []⟩ 8 (by kernel_rfl) (by kernel_rfl) (by kernel_rfl) (by kernel_rfl)) ?_
  intro W base args ds gs before hval0 hW hcnd _
  have hval : ∀ (j : Nat) t v, Try.f3.params[j]? = some t → args[j]? = some v → Value.okWide Try.prog W .any base t v := hval0
  have hW' := hW
  obtain ⟨p, q, hA0, hV, rfl, hfz, hnd⟩ := hW
  have hA : DataW.TrodAll enc Try.prog W 0 (fun _ => true) true Try.f3.params.toList args.toList ds p := hA0
  rw [Try.params3] at hA hval
  obtain ⟨rfl, rfl, rfl⟩ := trodAll_none hA
  obtain ⟨rfl, rfl⟩ := trodVars_none hV
  clear hA0 hval0
  refine (walk  W ).mono fun e W' ⟨he, bel⟩ => ?_
  subst he
  exact ⟨_, rfl, _, _, _, [], _, [], hW', trodAll_mk1 (shut_bool Try.underlying4 _), trodAll_mk0, rfl, bel.frame _, fun h => by cases h⟩

set_option maxHeartbeats 8000000 in
theorem over : Rows.fnExactNewDeskRow.holds Try.pinned (OpenSpec.ofChange Rows.fnExactNewDeskSpec) :=
  OpenClaim.holds_of_wide 3 Try.f3 rfl rfl rfl rfl rfl rfl rfl ⟨rfl, rfl, rfl, rfl, rfl⟩ rfl rfl rfl rfl rfl (by as_aux_lemma => kernel_rfl) Try.func3 (by as_aux_lemma => kernel_rfl)
    (of_decide_eq_true (by as_aux_lemma => kernel_rfl)) (by unfold Func.isWrapper; first | (rw [if_pos (by decide +kernel)]; kernel_rfl) | (rw [if_neg (by decide +kernel)]; exact ⟨rfl, rfl⟩))
    (fun os started H enc _ => lifted os started H enc)

theorem proved : Rows.FnExactNewDeskSaid := over
#print axioms proved
end Go.Proofs.Ythlfclnfkgiddaa.newDesk
