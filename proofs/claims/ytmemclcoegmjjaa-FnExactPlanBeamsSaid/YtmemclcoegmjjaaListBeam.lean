/- Lists of beams in a law: compared, copied, marked. -/
import Derived.Test.YtmemclcoegmjjaaRows
import Derived.Test.YtmemclcoegmjjaaSlc
import Derived.Test.YtmemclcoegmjjaaSmall
import Derived.Test.YtmemclcoegmjjaaOpens
import Derived.Test.YtmemclcoegmjjaaBeams
import Derived.WalkKit
import Derived.ProofKit
import Derived.OpenShut
import Derived.ShutString
import Derived.ChangeOld
import Derived.Below
import Derived.Lib.Hide
import Derived.BigQuiet
import Derived.Deep.QuietTactic
import Derived.WalkLawsBesides
import Derived.Outline
import Derived.Deep.QuietTactic
import Derived.BigQuiet
import Derived.Deep.LoopGhost
import Derived.StillTailTactics
namespace Go.Proofs.Ytmemclcoegmjjaa.listBeam
open Go.ChangeShapes Go.WideShapes Go.ChangeAt Go.RowKit
open Go.ChangeMaps (open_string shut_string)
set_option linter.unusedVariables false
open Go Go.RowKit
open Go.Proofs.Ytmemclcoegmjjaa.slc Go.Proofs.Ytmemclcoegmjjaa.small Go.Proofs.Ytmemclcoegmjjaa.opens Go.Proofs.Ytmemclcoegmjjaa.beams

theorem infoB : (Try.prog.info? 69).map (fun i => (i.zero, i.size, i.bytes)) = some (some (.agg #[.int .i64 0, .int .i64 0, .int .i64 0, .int .i64 0]), 4, 32) := by kernel_rfl

theorem eq_dir (x y : Int) (w : World) :
    Calls Try.prog 130 #[.agg #[.int .i64 x, .int .i64 y], .agg #[.int .i64 x, .int .i64 y]] w fun e w' => e = .returned (.bool true) ∧ w.grownBy w' none := by
  go_enter Try.func130, Try.ntmps130
  go_wp2
  go_ret
  exact ⟨rfl, (World.grownBy_alloc _ _ _).trans (World.grownBy_alloc _ _ _)⟩

theorem blocks3 {w w1 : World} {a b c : Obj} (hg : (((w.alloc a).alloc b).alloc c).grownBy w1 none) : w1.heap[w.heap.size]? = some a ∧ w1.heap[w.heap.size + 1]? = some b ∧ w1.heap[w.heap.size + 1 + 1]? = some c := by
  have e1 : (w.alloc a).heap.size = w.heap.size + 1 := by simp
  have e2 : ((w.alloc a).alloc b).heap.size = w.heap.size + 1 + 1 := by simp
  have g2 := (World.grownBy_alloc ((w.alloc a).alloc b) c none).trans hg
  have g1 := (World.grownBy_alloc (w.alloc a) b none).trans g2
  refine ⟨(g1.block _ (by simp) (by simp)).trans (heap_alloc_new w _), ?_, ?_⟩
  · have := (g2.block (w.alloc a).heap.size (by simp) (by simp)).trans (heap_alloc_new (w.alloc a) b)
    rwa [e1] at this
  · have := (hg.block ((w.alloc a).alloc b).heap.size (by simp) (by simp)).trans (heap_alloc_new ((w.alloc a).alloc b) c)
    rwa [e2] at this
theorem block1 {w w1 : World} {a : Obj} (hg : (w.alloc a).grownBy w1 none) : w1.heap[w.heap.size]? = some a := (hg.block _ (by simp) (by simp)).trans (heap_alloc_new w _)
theorem blocks2 {w w1 : World} {a b : Obj} (hg : ((w.alloc a).alloc b).grownBy w1 none) : w1.heap[w.heap.size]? = some a ∧ w1.heap[w.heap.size + 1]? = some b := by
  have e1 : (w.alloc a).heap.size = w.heap.size + 1 := by simp
  have g1 := (World.grownBy_alloc (w.alloc a) b none).trans hg
  refine ⟨(g1.block _ (by simp) (by simp)).trans (heap_alloc_new w _), ?_⟩
  have := (hg.block (w.alloc a).heap.size (by simp) (by simp)).trans (heap_alloc_new (w.alloc a) b)
  rwa [e1] at this
theorem cells4 {w : World} {g : Nat} {x y u v : Value} {t : TypeId} (h : w.heap[g]? = some (.cells #[x, y, u, v] t)) :
    (w.cell? ⟨g, 0, none⟩ = some x ∧ w.cell? ⟨g, 1, none⟩ = some y ∧ w.cell? ⟨g, 2, none⟩ = some u ∧ w.cell? ⟨g, 3, none⟩ = some v) ∧ w.frozen? ⟨g, 0, none⟩ = false ∧ w.frozen? ⟨g, 1, none⟩ = false ∧ w.frozen? ⟨g, 2, none⟩ = false ∧ w.frozen? ⟨g, 3, none⟩ = false :=
  ⟨⟨cell_of_row w _ 0 _ _ _ h, cell_of_row w _ 1 _ _ _ h, cell_of_row w _ 2 _ _ _ h, cell_of_row w _ 3 _ _ _ h⟩, frozen_of_row w _ 0 _ _ h, frozen_of_row w _ 1 _ _ h, frozen_of_row w _ 2 _ _ h, frozen_of_row w _ 3 _ _ h⟩

set_option maxHeartbeats 1600000 in
set_option maxRecDepth 100000 in
theorem to_beam (u v d s : Int) (w : World) :
    Calls Try.prog 124 #[.agg #[.int .i64 u, .int .i64 v, .int .i64 d, .int .i64 s]] w fun e w' => e = .returned (.agg #[.int .i64 u, .int .i64 v, .int .i64 d, .int .i64 s]) ∧ w.grownBy w' none := by
  go_enter Try.func124, Try.ntmps124
  go_wp2_with fail
  refine (to_dir _ _ _).mono ?_
  rintro e w1 ⟨rfl, g1⟩
  obtain ⟨b0, b1, b2⟩ := blocks3 g1
  obtain ⟨⟨c00, c01, c02, c03⟩, f00, f01, f02, f03⟩ := cells4 b0
  obtain ⟨⟨c10, c11, c12, c13⟩, f10, f11, f12, f13⟩ := cells4 b1
  obtain ⟨⟨c20, c21, c22, c23⟩, f20, f21, f22, f23⟩ := cells4 b2
  have HB := Lib.hid (gb_below ((((World.grownBy_alloc _ _ none).trans (World.grownBy_alloc _ _ none)).trans (World.grownBy_alloc _ _ none)).trans g1))
  clear b0 b1 b2 g1
  go_wp2_with fail
  have l1 : w.heap.size ≤ w.heap.size + 1 := by omega
  have l2 : w.heap.size ≤ w.heap.size + 1 + 1 := by omega
  exact bodyPost_ret (v := .agg #[.int .i64 u, .int .i64 v, .int .i64 d, .int .i64 s]) (by simp [results, Try.results124, go_sem, c10, c11, c12, c13]) rfl
    ⟨rfl, gb_of_below ((((((((HB.out.setCell l2 _).setCell l2 _).setCell l2 _).setCell l2 _).setCell l1 _).setCell l1 _).setCell l1 _).setCell l1 _)⟩

set_option maxHeartbeats 400000 in
set_option maxRecDepth 100000 in
theorem eq_beam (u v d s : Int) (w : World) :
    Calls Try.prog 126 #[.agg #[.int .i64 u, .int .i64 v, .int .i64 d, .int .i64 s], .agg #[.int .i64 u, .int .i64 v, .int .i64 d, .int .i64 s]] w fun e w' => e = .returned (.bool true) ∧ w.grownBy w' none := by
  go_enter Try.func126, Try.ntmps126
  go_wp2_with fail
  refine (eq_dir _ _ _).mono ?_
  rintro e w1 ⟨rfl, g1⟩
  obtain ⟨b0, b1⟩ := blocks2 g1
  obtain ⟨⟨_, _, c02, c03⟩, _⟩ := cells4 b0
  obtain ⟨⟨_, _, c12, c13⟩, _⟩ := cells4 b1
  have HB := Lib.hid (((World.grownBy_alloc _ _ none).trans (World.grownBy_alloc _ _ none)).trans g1)
  clear b0 b1 g1
  go_wp2_with fail
  go_ret
  exact ⟨rfl, HB.out⟩

theorem Rd.four {w : World} {B n : Nat} {A : Option Addr} {ss : List (Int × Int × Int × Int)} (h : Rd w B A (n * 4) (bcell ss)) {k : Nat} (hk : k < n) :
    ∃ ad u v d s, A = some ad ∧ ad.block < B ∧ ss.getD k (0, 0, 0, 0) = (u, v, d, s) ∧ w.cell? (ad.add (k * 4)) = some (.int .i64 u) ∧ w.cell? ⟨(ad.add (k * 4)).block, (ad.add (k * 4)).off + 1, none⟩ = some (.int .i64 v) ∧ w.cell? ⟨(ad.add (k * 4)).block, (ad.add (k * 4)).off + 2, none⟩ = some (.int .i64 d) ∧ w.cell? ⟨(ad.add (k * 4)).block, (ad.add (k * 4)).off + 3, none⟩ = some (.int .i64 s) := by
  obtain ⟨ad, e, hb, hc⟩ := h (by omega)
  have a2 : ∀ d, 0 < d → (⟨(ad.add (k * 4)).block, (ad.add (k * 4)).off + d, none⟩ : Addr) = ad.add (k * 4 + d) := fun d hd => by
    unfold Addr.add
    rw [if_neg (show ¬ k * 4 + d = 0 by omega)]
    split
    · rename_i h0
      rw [h0, Nat.zero_add]
    · rw [Nat.add_assoc]
  have e0 := hc (k * 4) (by omega)
  have e1 := hc (k * 4 + 1) (by omega)
  have e2 := hc (k * 4 + 2) (by omega)
  have e3 := hc (k * 4 + 3) (by omega)
  have d0 : k * 4 / 4 = k := by omega
  have d1 : (k * 4 + 1) / 4 = k := by omega
  have d2 : (k * 4 + 2) / 4 = k := by omega
  have d3 : (k * 4 + 3) / 4 = k := by omega
  have m0 : k * 4 % 4 = 0 := by omega
  have m1 : (k * 4 + 1) % 4 = 1 := by omega
  have m2 : (k * 4 + 2) % 4 = 2 := by omega
  have m3 : (k * 4 + 3) % 4 = 3 := by omega
  simp only [bcell, d0, m0, if_pos] at e0
  simp only [bcell, d1, m1, if_pos, if_neg (show ¬ (1 = 0) by decide)] at e1
  simp only [bcell, d2, m2, if_pos, if_neg (show ¬ (2 = 0) by decide), if_neg (show ¬ (2 = 1) by decide)] at e2
  simp only [bcell, d3, m3, if_neg (show ¬ (3 = 0) by decide), if_neg (show ¬ (3 = 1) by decide), if_neg (show ¬ (3 = 2) by decide)] at e3
  exact ⟨ad, _, _, _, _, e, hb, rfl, e0, by rw [a2 _ (by decide)]; exact e1, by rw [a2 _ (by decide)]; exact e2, by rw [a2 _ (by decide)]; exact e3⟩

set_option maxHeartbeats 400000 in
set_option maxRecDepth 100000 in
theorem eqB_true (A A' : Option Addr) (n c d B : Nat) (ss : List (Int × Int × Int × Int)) (w : World) (hn : n ≤ 9223372036854775807) (hB : B ≤ w.heap.size) (ha : Rd w B A (n * 4) (bcell ss)) (hb : Rd w B A' (n * 4) (bcell ss)) :
    Calls Try.prog 54 #[.slice A n c, .slice A' n d] w fun e w' => e = .returned (.bool true) ∧ w.grownBy w' none := by
  go_enter Try.func54, Try.ntmps54
  go_wp2
  go_loopw [5] (fun i wr => ∃ k : Nat, k ≤ n ∧ i = .int .i64 k ∧ w.grownBy wr none) (fun i _ => n - (intOf i).toNat)
  case atStart => exact ⟨0, Nat.zero_le _, rfl, World.grownBy.refl _ _⟩
  case round =>
    obtain ⟨k, hk, rfl, hg⟩ := hrel
    by_cases hlt : k < n
    · obtain ⟨ad, u, v, d, s, rfl, _, hx, hc0, hc1, hc2, hc3⟩ := Rd.four (ha.kept0 hg hB) hlt
      obtain ⟨bd, u', v', d', s', rfl, _, hx', hd0, hd1, hd2, hd3⟩ := Rd.four (hb.kept0 hg hB) hlt
      rw [hx] at hx'
      simp only [Prod.mk.injEq] at hx'
      obtain ⟨rfl, rfl, rfl, rfl⟩ := hx'
      clear hx
      go_wp2_with fail
      have hgd : w.grownBy wr.drew none := ⟨hg.os, hg.tape, hg.output, hg.size, hg.block⟩
      go_still_tail 8, (by kernel_rfl)
      change wpList _ _ _ _ _ wr.drew
      generalize wr.drew = w2 at hgd ⊢
      go_wp2_with fail
      refine (eq_beam _ _ _ _ _).mono ?_
      rintro e w3 ⟨rfl, hg3⟩
      have hg4 := hgd.trans hg3
      go_wp2
      go_roundw
      case rel => exact ⟨k + 1, by omega, by go_num, hg4⟩
      case measure => simp [intOf]; omega
    · go_wp2
      go_ret
      exact ⟨rfl, hg⟩

theorem szB (A : Option Addr) (n c : Nat) (w : World) (hn : n ≤ 1048576) :
    Calls Try.prog 50 #[.slice A n c, .int .i64 1048576] w fun en w' => en = .returned (.int .i64 (1048576 - (n : Int))) ∧ w = w' := by
  go_enter Try.func50, Try.ntmps50
  go_wp2
  go_ret
  exact ⟨rfl, rfl⟩
theorem szB_no (A : Option Addr) (n c : Nat) (w : World) (hn : 1048576 < n) (hm : n ≤ 9223372036854775807) :
    Calls Try.prog 50 #[.slice A n c, .int .i64 1048576] w fun en w' => en = .returned (.int .i64 (-1)) ∧ w = w' := by
  go_enter Try.func50, Try.ntmps50
  go_wp2
  go_ret
  exact ⟨rfl, rfl⟩

theorem made_beams (n : Nat) : (madeCells (Value.agg #[.int .i64 0, .int .i64 0, .int .i64 0, .int .i64 0]).cells (n * 4)).toList = lst (fun _ => .int .i64 0) (n * 4) := by
  apply List.ext_getElem?
  intro i
  by_cases hi : i < n * 4
  · have : (Value.agg #[.int .i64 0, .int .i64 0, .int .i64 0, .int .i64 0]).cells = #[.int .i64 0, .int .i64 0, .int .i64 0, .int .i64 0] := rfl
    rw [this]
    have h2 : i % 4 = 0 ∨ i % 4 = 1 ∨ i % 4 = 2 ∨ i % 4 = 3 := by omega
    rcases h2 with h2 | h2 | h2 | h2 <;> simp [madeCells, lst, hi, h2]
  · simp [madeCells, lst, hi]

set_option maxHeartbeats 1600000 in
set_option maxRecDepth 100000 in
theorem toB (A : Option Addr) (n c : Nat) (ss : List (Int × Int × Int × Int)) (w : World) (hn : n ≤ 1048576) (ha : Rd w w.heap.size A (n * 4) (bcell ss)) :
    Calls Try.prog 52 #[.slice A n c] w fun en w' => ∃ A' c', en = .returned (.slice A' n c') ∧ w'.ownsRow w.heap.size 69 4 (.slice A' n c') n (lst (bcell ss) (n * 4)) ∧ w.grownBy w' none := by
  obtain ⟨i0, hi0, hz0, hz1, hz2⟩ := info_parts infoB
  go_enter Try.func52, Try.ntmps52
  go_wp2_with (at_make; refine wpList_make_full _ rfl _ _ _ rfl w.heap.size 69 i0 (.agg #[.int .i64 0, .int .i64 0, .int .i64 0, .int .i64 0]) 4 Try.underlying53 hi0 hz0 hz1 _ _ _ _ n rfl rfl rfl rfl (by rw [hz2]; omega) (by unfold maxLen; omega) (Nat.le_refl _) ?_; intro w1 hown hg)
  go_loopw [4] (fun i wr => ∃ j : Nat, j ≤ n ∧ i = .int .i64 j ∧ wr.ownsRow w.heap.size 69 4 (.slice (some ⟨w.heap.size, 0, none⟩) n n) n (lst (mix (bcell ss) (fun _ => .int .i64 0) (j * 4)) (n * 4)) ∧ w.grownBy wr none) (fun i _ => n - (intOf i).toNat)
  case atStart =>
    refine ⟨0, Nat.zero_le _, rfl, ?_, hg⟩
    rw [Nat.zero_mul, mix_zero]
    exact (made_beams n) ▸ hown
  case round =>
    obtain ⟨j, hj, rfl, hown, hg⟩ := hrel
    by_cases hlt : j < n
    · obtain ⟨ad, u, v, d, s, rfl, hab, hx, hc0, hc1, hc2, hc3⟩ := Rd.four (ha.kept0 hg (Nat.le_refl _)) hlt
      go_wp2_with fail
      refine (to_beam _ _ _ _ _).mono ?_
      rintro e w2 ⟨rfl, hg2⟩
      have hown2 := own_kept0 hown hg2
      have hgg := hg.trans hg2
      clear hc0 hc1 hc2 hc3
      have hc0 := hown2.cellAt (j * 4) (by omega)
      rw [lst_get _ _ _ (by omega)] at hc0
      have hf0 := hown2.frozenAt (j * 4)
      have hc1 := hown2.cellAt (j * 4 + 1) (by omega)
      rw [lst_get _ _ _ (by omega)] at hc1
      have hf1 := hown2.frozenAt (j * 4 + 1)
      have hc2 := hown2.cellAt (j * 4 + 2) (by omega)
      rw [lst_get _ _ _ (by omega)] at hc2
      have hf2 := hown2.frozenAt (j * 4 + 2)
      have hc3 := hown2.cellAt (j * 4 + 3) (by omega)
      rw [lst_get _ _ _ (by omega)] at hc3
      have hf3 := hown2.frozenAt (j * 4 + 3)
      obtain ⟨p1, q1⟩ := hown2.stored (j * 4) (bcell ss (j * 4))
      rw [mix_set _ _ _ _ (by omega)] at p1
      obtain ⟨p2, q2⟩ := p1.stored (j * 4 + 1) (bcell ss (j * 4 + 1))
      rw [mix_set _ _ _ _ (by omega)] at p2
      obtain ⟨p3, q3⟩ := p2.stored (j * 4 + 1 + 1) (bcell ss (j * 4 + 2))
      rw [mix_set _ _ _ _ (by omega)] at p3
      obtain ⟨p4, q4⟩ := p3.stored (j * 4 + 1 + 1 + 1) (bcell ss (j * 4 + 3))
      rw [mix_set _ _ _ _ (by omega)] at p4
      have hnb : ∀ g, some w.heap.size = some g → w.heap.size ≤ g := by intro g e; injection e with e; omega
      have hs2' := gb_new (gb_new (gb_new (gb_new hgg q1 hnb) q2 hnb) q3 hnb) q4 hnb
      have d0 : j * 4 / 4 = j := by omega
      have d1 : (j * 4 + 1) / 4 = j := by omega
      have d2 : (j * 4 + 2) / 4 = j := by omega
      have d3 : (j * 4 + 3) / 4 = j := by omega
      have m0 : j * 4 % 4 = 0 := by omega
      have m1 : (j * 4 + 1) % 4 = 1 := by omega
      have m2 : (j * 4 + 2) % 4 = 2 := by omega
      have m3 : (j * 4 + 3) % 4 = 3 := by omega
      have e0 : bcell ss (j * 4) = .int .i64 u := by simp only [bcell, d0, m0, hx, if_pos]
      have e1 : bcell ss (j * 4 + 1) = .int .i64 v := by simp only [bcell, d1, m1, hx, if_pos, if_neg (show ¬ (1 = 0) by decide)]
      have e2 : bcell ss (j * 4 + 2) = .int .i64 d := by simp only [bcell, d2, m2, hx, if_pos, if_neg (show ¬ (2 = 0) by decide), if_neg (show ¬ (2 = 1) by decide)]
      have e3 : bcell ss (j * 4 + 3) = .int .i64 s := by simp only [bcell, d3, m3, hx, if_neg (show ¬ (3 = 0) by decide), if_neg (show ¬ (3 = 1) by decide), if_neg (show ¬ (3 = 2) by decide)]
      rw [e0, e1, e2, e3] at hs2' p4
      clear hgg hown hown2 p1 q1 p2 q2 p3 q3 q4 hg hg2 hnb d0 d1 d2 d3 m0 m1 m2 m3 e0 e1 e2 e3 hx
      have HS := Lib.hid p4
      have HG := Lib.hid hs2'
      clear p4 hs2'
      go_wp2_with fail
      go_roundw
      case rel => exact ⟨j + 1, by omega, by go_num, by rw [show (j + 1) * 4 = j * 4 + 1 + 1 + 1 + 1 by omega]; exact HS.out, HG.out⟩
      case measure => simp [intOf]; omega
    · obtain rfl : j = n := by omega
      go_wp2
      go_ret
      exact ⟨_, _, rfl, by rw [← mix_full]; exact hown, hg⟩

def setc (f : Nat → Value) (j : Nat) (v : Value) : Nat → Value := fun i => if i = j then v else f i
theorem lst_setc (f : Nat → Value) (n j : Nat) (v : Value) : (lst f n).set j v = lst (setc f j v) n := by
  apply List.ext_getElem?
  intro i
  rw [List.getElem?_set]
  by_cases e : j = i
  · subst e
    by_cases hn : j < n
    · rw [if_pos rfl, if_pos (by rw [lst_len]; exact hn), lst_get _ _ _ hn]; simp [setc]
    · rw [if_pos rfl, if_neg (by rw [lst_len]; exact hn), List.getElem?_eq_none (by rw [lst_len]; omega)]
  · rw [if_neg e]
    by_cases hn : i < n
    · rw [lst_get _ _ _ hn, lst_get _ _ _ hn]; simp [setc, Ne.symm e]
    · rw [List.getElem?_eq_none (by rw [lst_len]; omega), List.getElem?_eq_none (by rw [lst_len]; omega)]
set_option maxHeartbeats 1600000 in
set_option maxRecDepth 100000 in
theorem markB (A : Option Addr) (n c base : Nat) (e : TypeId) (k : Nat) (f : Nat → Value) (w : World) (hn : n * 4 + k ≤ 4611686018427387904) (ho : w.ownsRow base e 4 (.slice A n c) n (lst f (n * 4))) :
    Calls Try.prog 55 #[.slice A n c, .int .i64 k] w fun en w' => en = .returned (.int .i64 (k + n * 4 : Nat)) ∧ w.grownBy w' (A.map Addr.block) := by
  go_enter Try.func55, Try.ntmps55
  go_wp2
  go_loopw [1, 5] (fun m i wr => ∃ j : Nat, j ≤ n ∧ i = .int .i64 j ∧ m = .int .i64 (k + j * 4 : Nat) ∧ (∃ f, wr.ownsRow base e 4 (.slice A n c) n (lst f (n * 4))) ∧ w.grownBy wr (A.map Addr.block)) (fun _ i _ => n - (intOf i).toNat)
  case atStart => exact ⟨0, Nat.zero_le _, rfl, rfl, ⟨_, ho⟩, World.grownBy.refl _ _⟩
  case round =>
    obtain ⟨j, hj, rfl, rfl, ⟨f, hown⟩, hg⟩ := hrel
    by_cases hlt : j < n
    · obtain ⟨g, cap, hv, _, _⟩ := hown.form (by omega)
      obtain ⟨rfl, rfl⟩ : A = some ⟨g, 0, none⟩ ∧ c = cap := by injection hv with a b c; exact ⟨a, c⟩
      clear hv
      have c0 := hown.cellAt (j * 4) (by omega)
      rw [lst_get _ _ _ (by omega)] at c0
      have f0 := hown.frozenAt (j * 4)
      have c1 := hown.cellAt (j * 4 + 1) (by omega)
      rw [lst_get _ _ _ (by omega)] at c1
      have f1 := hown.frozenAt (j * 4 + 1)
      have c2 := hown.cellAt (j * 4 + 2) (by omega)
      rw [lst_get _ _ _ (by omega)] at c2
      have f2 := hown.frozenAt (j * 4 + 2)
      have c3 := hown.cellAt (j * 4 + 3) (by omega)
      rw [lst_get _ _ _ (by omega)] at c3
      have f3 := hown.frozenAt (j * 4 + 3)
      obtain ⟨p1, q1⟩ := hown.stored (j * 4) (.int .i64 ((k : Int) + (j : Int) * 4))
      rw [lst_setc] at p1
      obtain ⟨p2, q2⟩ := p1.stored (j * 4 + 1) (.int .i64 ((k : Int) + (j : Int) * 4 + 1))
      rw [lst_setc] at p2
      obtain ⟨p3, q3⟩ := p2.stored (j * 4 + 2) (.int .i64 ((k : Int) + (j : Int) * 4 + 1 + 1))
      rw [lst_setc] at p3
      obtain ⟨p4, q4⟩ := p3.stored (j * 4 + 3) (.int .i64 ((k : Int) + (j : Int) * 4 + 1 + 1 + 1))
      rw [lst_setc] at p4
      have HS := Lib.hid p4
      have HG := Lib.hid ((((hg.trans q1).trans q2).trans q3).trans q4)
      clear hg hown p1 q1 p2 q2 p3 q3 p4 q4
      go_wp2
      go_roundw
      case rel => exact ⟨j + 1, by omega, by go_num, by go_num, ⟨_, HS.out⟩, HG.out⟩
      case measure => simp [intOf]; omega
    · obtain rfl : j = n := by omega
      go_wp2
      go_ret
      exact ⟨by go_num, hg⟩

end Go.Proofs.Ytmemclcoegmjjaa.listBeam
