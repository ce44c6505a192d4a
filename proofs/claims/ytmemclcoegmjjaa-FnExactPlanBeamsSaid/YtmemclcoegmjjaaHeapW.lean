/- Queues of jobs in memory: their methods. -/
import Derived.Test.YtmemclcoegmjjaaRows
import Derived.Test.YtmemclcoegmjjaaSlc
import Derived.Test.YtmemclcoegmjjaaSmall
import Derived.Test.YtmemclcoegmjjaaOpens
import Derived.Test.YtmemclcoegmjjaaHeapN
import Derived.Test.YtmemclcoegmjjaaHeapM
import Derived.Test.YtmemclcoegmjjaaListDir
import Derived.WalkKit
import Derived.ProofKit
import Derived.OpenShut
import Derived.ShutString
import Derived.ChangeOld
import Derived.Below
import Derived.Lib.Hide
import Derived.BigQuiet
import Derived.Deep.QuietTactic
import Derived.WalkLawsBesides
import Derived.Outline
import Derived.Deep.QuietTactic
import Derived.BigQuiet
import Derived.BigRegion
import Derived.Deep.LoopGhost
import Derived.Deep.RegionHeld3
import Derived.Deep.RegionWith
namespace Go.Proofs.Ytmemclcoegmjjaa.heapW
open Go.ChangeShapes Go.WideShapes Go.ChangeAt Go.RowKit
open Go.ChangeMaps (open_string shut_string)
set_option linter.unusedVariables false
open Go Go.RowKit
open Go.Proofs.Ytmemclcoegmjjaa.slc Go.Proofs.Ytmemclcoegmjjaa.small Go.Proofs.Ytmemclcoegmjjaa.opens Go.Proofs.Ytmemclcoegmjjaa.heapN Go.Proofs.Ytmemclcoegmjjaa.heapM

/-- The row of a queue's jobs. -/
def Qr (w : World) (base : Nat) (L : List Jb) (A : Option Addr) (c : Nat) : Prop := w.ownsRow base 130 2 (.slice A L.length c) L.length (lst (pcell L) (L.length * 2))
theorem Qr.at_ {w : World} {base : Nat} {L : List Jb} {A : Option Addr} {c : Nat} (h : Qr w base L A c) {i : Nat} (hi : i < L.length) :
    ∃ g, A = some ⟨g, 0, none⟩ ∧ w.cell? ⟨g, i * 2, none⟩ = some (.int .i64 (jg L i).1) ∧ w.cell? ⟨g, i * 2 + 1, none⟩ = some (.int .i64 (jg L i).2) := by
  obtain ⟨g, cap, hv, _, _⟩ := h.form (by omega)
  obtain ⟨rfl, rfl⟩ : A = some ⟨g, 0, none⟩ ∧ c = cap := by injection hv with a b c; exact ⟨a, c⟩
  refine ⟨g, rfl, ?_, ?_⟩
  · have h1 := h.cellAt (i * 2) (by omega)
    rw [lst_get _ _ _ (by omega)] at h1
    rw [h1]
    unfold pcell
    rw [if_pos (by omega), show i * 2 / 2 = i by omega]
    rfl
  · have h1 := h.cellAt (i * 2 + 1) (by omega)
    rw [lst_get _ _ _ (by omega)] at h1
    rw [h1]
    unfold pcell
    rw [if_neg (by omega), show (i * 2 + 1) / 2 = i by omega]
    rfl
theorem len_c (L : List Jb) (A : Option Addr) (c : Nat) (w : World) : Calls Try.prog 219 #[.slice A L.length c] w fun e w' => e = .returned (.int .i64 L.length) ∧ w = w' := by
  go_enter Try.func219, Try.ntmps219
  go_wp2
  go_ret
  exact ⟨rfl, rfl⟩
set_option maxHeartbeats 1600000 in
set_option maxRecDepth 100000 in
theorem less_c (base : Nat) (L : List Jb) (A : Option Addr) (c i j : Nat) (w : World) (h : Qr w base L A c) (hi : i < L.length) (hj : j < L.length) (hm : L.length ≤ 100) :
    Calls Try.prog 220 #[.slice A L.length c, .int .i64 i, .int .i64 j] w fun e w' => e = .returned (.bool (lts (jg L i) (jg L j))) ∧ w.grownBy w' none := by
  obtain ⟨g, rfl, a0, a1⟩ := h.at_ hi
  obtain ⟨g2, e2, b0, b1⟩ := h.at_ hj
  obtain rfl : g = g2 := by injection e2 with e2; injection e2
  have i0 : (0 : Int) ≤ (i : Int) := by omega
  have i1 : (i : Int) < (L.length : Int) := by omega
  have j0 : (0 : Int) ≤ (j : Int) := by omega
  have j1 : (j : Int) < (L.length : Int) := by omega
  clear e2 h
  unfold lts
  generalize jg L i = x at *
  generalize jg L j = y at *
  obtain ⟨x1, x2⟩ := x
  obtain ⟨y1, y2⟩ := y
  dsimp only at a0 a1 b0 b1 ⊢
  by_cases e : x1 = y1
  · subst e
    rw [if_pos rfl]
    go_enter Try.func220, Try.ntmps220
    go_wp2_with fail
    go_quiet (fail)
    go_wp2_with fail
    have a1' : (w.drewN nq).cell? ⟨g, i * 2 + 1, none⟩ = some (.int .i64 x2) := a1
    have b1' : (w.drewN nq).cell? ⟨g, j * 2 + 1, none⟩ = some (.int .i64 y2) := b1
    have gd := gb_drewN w nq none
    generalize w.drewN nq = wd at *
    go_quiet (fail)
    go_wp2_with fail
    go_ret
    exact ⟨rfl, gd.trans (gb_drewN _ _ _)⟩
  · rw [if_neg e]
    go_enter Try.func220, Try.ntmps220
    go_wp2_with fail
    go_quiet (fail)
    go_wp2_with fail
    have a1' : (w.drewN nq).cell? ⟨g, i * 2, none⟩ = some (.int .i64 x1) := a0
    have b1' : (w.drewN nq).cell? ⟨g, j * 2, none⟩ = some (.int .i64 y1) := b0
    have gd := gb_drewN w nq none
    generalize w.drewN nq = wd at *
    go_quiet (fail)
    go_wp2_with fail
    go_ret
    exact ⟨rfl, gd.trans (gb_drewN _ _ _)⟩
theorem pcell_swp {L : List Jb} {i j : Nat} (hi : i < L.length) (hj : j < L.length) :
    ((((lst (pcell L) (L.length * 2)).set (i * 2) (.int .i64 (jg L j).1)).set (i * 2 + 1) (.int .i64 (jg L j).2)).set (j * 2) (.int .i64 (jg L i).1)).set (j * 2 + 1) (.int .i64 (jg L i).2) = lst (pcell (swp L i j)) (L.length * 2) := by
  apply List.ext_getElem?
  intro k
  by_cases hk : k < L.length * 2
  · rw [lst_get _ _ _ hk]
    simp only [List.getElem?_set, List.length_set, lst_len, lst_get _ _ _ hk]
    have e : pcell (swp L i j) k = if k % 2 = 0 then .int .i64 (jg (swp L i j) (k / 2)).1 else .int .i64 (jg (swp L i j) (k / 2)).2 := rfl
    have e2 : pcell L k = if k % 2 = 0 then .int .i64 (jg L (k / 2)).1 else .int .i64 (jg L (k / 2)).2 := rfl
    rw [e, e2, swp_at hi hj]
    by_cases h1 : k / 2 = j
    · rw [if_pos h1]
      by_cases h2 : k % 2 = 0
      · rw [if_neg (by omega), if_pos (by omega), if_pos (by omega), if_pos h2]
      · rw [if_pos (by omega), if_pos (by omega), if_neg h2]
    · rw [if_neg h1, if_neg (by omega), if_neg (by omega)]
      by_cases h3 : k / 2 = i
      · rw [if_pos h3]
        by_cases h2 : k % 2 = 0
        · rw [if_neg (by omega), if_pos (by omega), if_pos (by omega), if_pos h2]
        · rw [if_pos (by omega), if_pos (by omega), if_neg h2]
      · rw [if_neg h3, if_neg (by omega), if_neg (by omega)]
  · rw [List.getElem?_eq_none (by simp [lst_len]; omega), List.getElem?_eq_none (by rw [lst_len]; omega)]
set_option maxHeartbeats 1600000 in
set_option maxRecDepth 100000 in
theorem swap_c (base : Nat) (L : List Jb) (A : Option Addr) (c i j : Nat) (w : World) (h : Qr w base L A c) (hi : i < L.length) (hj : j < L.length) (hm : L.length ≤ 100) :
    Calls Try.prog 221 #[.slice A L.length c, .int .i64 i, .int .i64 j] w fun e w' => e = .returned (.tuple #[]) ∧ Qr w' base (swp L i j) A c ∧ w.grownBy w' (A.map Addr.block) := by
  obtain ⟨g, rfl, a0, a1⟩ := h.at_ hi
  obtain ⟨g2, e2, b0, b1⟩ := h.at_ hj
  obtain rfl : g = g2 := by injection e2 with e2; injection e2
  have i0 : (0 : Int) ≤ (i : Int) := by omega
  have i1 : (i : Int) < (L.length : Int) := by omega
  have j0 : (0 : Int) ≤ (j : Int) := by omega
  have j1 : (j : Int) < (L.length : Int) := by omega
  clear e2
  obtain ⟨p1, q1⟩ := World.ownsRow.stored h (i * 2) (.int .i64 (jg L j).1)
  obtain ⟨p2, q2⟩ := p1.stored (i * 2 + 1) (.int .i64 (jg L j).2)
  obtain ⟨p3, q3⟩ := p2.stored (j * 2) (.int .i64 (jg L i).1)
  obtain ⟨p4, q4⟩ := p3.stored (j * 2 + 1) (.int .i64 (jg L i).2)
  rw [pcell_swp hi hj] at p4
  have p5 : Qr (((((w.setCell ⟨g, i * 2, none⟩ (.int .i64 (jg L j).1)).setCell ⟨g, i * 2 + 1, none⟩ (.int .i64 (jg L j).2)).setCell ⟨g, j * 2, none⟩ (.int .i64 (jg L i).1)).setCell ⟨g, j * 2 + 1, none⟩ (.int .i64 (jg L i).2)).drew) base (swp L i j) (some ⟨g, 0, none⟩) c := by
    unfold Qr
    rw [swp_len]
    exact own_kept0 p4 (gb_drewN _ 1 none)
  have HF := Lib.hid (And.intro p5 (((q1.trans q2).trans q3).trans (q4.trans (gb_drewN _ 1 (some g)))))
  have f0 := h.frozenAt (i * 2)
  have f1 := h.frozenAt (i * 2 + 1)
  have f2 := h.frozenAt (j * 2)
  have f3 := h.frozenAt (j * 2 + 1)
  clear h p5 p1 q1 p2 q2 p3 q3 p4 q4
  by_cases hij : i = j
  · subst hij
    generalize (jg L i).1 = x1 at *
    generalize (jg L i).2 = x2 at *
    go_enter Try.func221, Try.ntmps221
    go_wp2_with fail
    go_region
    refine bodyPost_end (results_none rfl _ _ _) rfl ?_
    exact ⟨rfl, HF.out.1, HF.out.2⟩
  · generalize (jg L i).1 = x1 at *
    generalize (jg L i).2 = x2 at *
    generalize (jg L j).1 = y1 at *
    generalize (jg L j).2 = y2 at *
    have n1 : ¬ i * 2 = j * 2 := by omega
    have n2 : ¬ j * 2 = i * 2 := by omega
    have n3 : ¬ i * 2 + 1 = j * 2 + 1 := by omega
    have n4 : ¬ j * 2 + 1 = i * 2 + 1 := by omega
    have n5 : ¬ j = i := by omega
    go_enter Try.func221, Try.ntmps221
    go_wp2_with fail
    go_region
    refine bodyPost_end (results_none rfl _ _ _) rfl ?_
    exact ⟨rfl, HF.out.1, HF.out.2⟩

end Go.Proofs.Ytmemclcoegmjjaa.heapW
