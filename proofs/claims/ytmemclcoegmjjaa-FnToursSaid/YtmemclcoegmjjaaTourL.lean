/- Stops of a tour: the bits of the directions that are left. -/
import Derived.Test.YtmemclcoegmjjaaRows
import Derived.Test.YtmemclcoegmjjaaSlc
import Derived.Test.YtmemclcoegmjjaaSmall
import Derived.Test.YtmemclcoegmjjaaTourN
import Derived.WalkKit
import Derived.ProofKit
import Derived.OpenShut
import Derived.ShutString
import Derived.ChangeOld
import Derived.Below
import Derived.Lib.Hide
import Derived.BigQuiet
import Derived.Deep.QuietTactic
import Derived.WalkLawsBesides
import Derived.Outline
import Derived.Deep.QuietTactic
import Derived.BigQuiet
import Derived.Deep.LoopGhost
import Derived.Deep.RegionHeld3
import Derived.Deep.RegionWith
import Derived.Laws.Bits64b
import Derived.StillTailTactics
import Derived.RangeFuncBox
namespace Go.Proofs.Ytmemclcoegmjjaa.tourL
open Go.ChangeShapes Go.WideShapes Go.ChangeAt Go.RowKit
open Go.ChangeMaps (open_string shut_string)
set_option linter.unusedVariables false
open Go Go.RowKit
open Go.Proofs.Ytmemclcoegmjjaa.slc Go.Proofs.Ytmemclcoegmjjaa.small Go.Proofs.Ytmemclcoegmjjaa.tourN

theorem gb_set (w : World) (b i : Nat) (v : Value) : w.grownBy (w.setCell ⟨b, i, none⟩ v) (some b) :=
  ⟨rfl, rfl, rfl, (KeepsWalks.setCell w _ v).size, fun k _ hk => Below.heap_setCell _ _ _ k (fun e => hk (by rw [e]))⟩
theorem bit_tab : ∀ m : Nat, m < 128 → ∀ k : Nat, k < 7 → (bits .and .i64 ((m : Int) / 2 ^ k) 1 != 0) = m.testBit k := by decide +kernel
theorem clr_tab : ∀ m : Nat, m < 128 → ∀ k : Nat, k < 7 → m.testBit k = true → bits .andNot .i64 (m : Int) (2 ^ k) = ((m - 2 ^ k : Nat) : Int) := by decide +kernel
theorem shl_tab : ∀ k : Nat, k < 7 → IntKind.i64.wrap (1 * 2 ^ k) = 2 ^ k ∧ IntKind.i64.wrap (2 ^ k) = 2 ^ k ∧ min k 64 = k := by decide +kernel
set_option maxHeartbeats 800000 in
set_option maxRecDepth 100000 in
theorem next_c (a m k : Nat) (w : World) (hm : m < 128) (hk : k < 7) (hb : m.testBit k = true) :
    Calls Try.prog 101 #[.agg #[.int .i64 a, .int .i64 m], .int .i64 k] w fun e w' => e = .returned (.agg #[.int .i64 k, .int .i64 (m - 2 ^ k : Nat)]) ∧ w.grownBy w' none := by
  go_enter Try.func101, Try.ntmps101
  have h1 := clr_tab m hm k hk hb
  obtain ⟨h2, h3, h4⟩ := shl_tab k hk
  go_wp2_with fail
  have gW : w.grownBy ((w.alloc (.cells #[.int .i64 a, .int .i64 m] 146)).alloc (.cells #[.int .i64 0, .int .i64 0] 146)) none := (World.grownBy_alloc _ _ _).trans (World.grownBy_alloc _ _ _)
  have c1 : ((w.alloc (.cells #[.int .i64 a, .int .i64 m] 146)).alloc (.cells #[.int .i64 0, .int .i64 0] 146)).cell? ⟨w.heap.size, 1, none⟩ = some (.int .i64 m) := by
    have h := (boxed2 (World.grownBy_alloc (w.alloc (.cells #[.int .i64 a, .int .i64 m] 146)) (.cells #[.int .i64 0, .int .i64 0] 146) none)).2
    exact h
  have c2 : ((w.alloc (.cells #[.int .i64 a, .int .i64 m] 146)).alloc (.cells #[.int .i64 0, .int .i64 0] 146)).heap[w.heap.size + 1]? = some (.cells #[.int .i64 0, .int .i64 0] 146 (0, 0)) := by
    have h := heap_alloc_new (w.alloc (.cells #[.int .i64 a, .int .i64 m] 146)) (.cells #[.int .i64 0, .int .i64 0] 146)
    rwa [World.size_alloc] at h
  generalize ((w.alloc (.cells #[.int .i64 a, .int .i64 m] 146)).alloc (.cells #[.int .i64 0, .int .i64 0] 146)) = W at *
  have hz : w.heap.size ≤ w.heap.size + 1 := by omega
  generalize w.heap.size + 1 = z at *
  have c3 : W.drew.cell? ⟨w.heap.size, 1, none⟩ = some (.int .i64 m) := c1
  go_still_tail 7, (by kernel_rfl)
  change wpList _ _ _ _ _ W.drew
  have hd0 : W.drew.cell? ⟨z, 0, none⟩ = some (.int .i64 0) := cell_of_row _ _ 0 _ _ _ (show W.drew.heap[z]? = _ from c2)
  have hd1 : W.drew.cell? ⟨z, 1, none⟩ = some (.int .i64 0) := cell_of_row _ _ 1 _ _ _ (show W.drew.heap[z]? = _ from c2)
  have hf0 : W.drew.frozen? ⟨z, 0, none⟩ = false := by simp [World.frozen?, show W.drew.heap[z]? = _ from c2]
  have hf1 : W.drew.frozen? ⟨z, 1, none⟩ = false := by simp [World.frozen?, show W.drew.heap[z]? = _ from c2]
  have gD : w.grownBy W.drew none := gW.trans (gb_drewN _ 1 none)
  generalize W.drew = W2 at *
  go_wp2_with fail
  have e0 : ((W2.setCell ⟨z, 0, none⟩ (.int .i64 k)).setCell ⟨z, 1, none⟩ (.int .i64 (m - 2 ^ k : Nat))).cell? ⟨z, 0, none⟩ = some (.int .i64 k) := by
    rw [World.cell?_setCell_other _ _ _ _ (by intro h; simp only [Addr.mk.injEq] at h; omega)]
    exact World.cell?_setCell_same _ _ _ hd0
  have e1 : ((W2.setCell ⟨z, 0, none⟩ (.int .i64 k)).setCell ⟨z, 1, none⟩ (.int .i64 (m - 2 ^ k : Nat))).cell? ⟨z, 1, none⟩ = some (.int .i64 (m - 2 ^ k : Nat)) := by
    refine World.cell?_setCell_same _ _ _ (u := .int .i64 0) ?_
    rw [World.cell?_setCell_other _ _ _ _ (by intro h; simp only [Addr.mk.injEq] at h; omega)]
    exact hd1
  have gE : w.grownBy ((W2.setCell ⟨z, 0, none⟩ (.int .i64 k)).setCell ⟨z, 1, none⟩ (.int .i64 (m - 2 ^ k : Nat))) none :=
    gb_new (gb_new gD (gb_set _ _ _ _) (fun g e => by injection e with e; omega)) (gb_set _ _ _ _) (fun g e => by injection e with e; omega)
  exact bodyPost_ret (v := .agg #[.int .i64 k, .int .i64 (m - 2 ^ k : Nat)]) (by simp [results, Try.results101, go_sem, e0, e1]) rfl ⟨rfl, gE⟩
theorem leaves_c (a m k : Nat) (w : World) (hm : m < 128) (hk : k < 7) :
    Calls Try.prog 103 #[.agg #[.int .i64 a, .int .i64 m], .int .i64 k] w fun e w' => e = .returned (.bool (m.testBit k)) ∧ w.grownBy w' none := by
  go_enter Try.func103, Try.ntmps103
  have h1 := bit_tab m hm k hk
  go_wp2_with fail
  go_ret
  exact ⟨rfl, World.grownBy_alloc _ _ _⟩

end Go.Proofs.Ytmemclcoegmjjaa.tourL
