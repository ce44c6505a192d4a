/- slices.Sorted(slices.Values(..)) over at most seven integers. -/
import Derived.Test.YtmemclcoegmjjaaRows
import Derived.Test.YtmemclcoegmjjaaSlc
import Derived.Test.YtmemclcoegmjjaaSmall
import Derived.Test.YtmemclcoegmjjaaListI
import Derived.Test.YtmemclcoegmjjaaSortO
import Derived.WalkKit
import Derived.ProofKit
import Derived.OpenShut
import Derived.ShutString
import Derived.ChangeOld
import Derived.Below
import Derived.Lib.Hide
import Derived.BigQuiet
import Derived.Deep.QuietTactic
import Derived.WalkLawsBesides
import Derived.Outline
import Derived.RangeFuncNested
import Derived.RangeFuncKeeps
import Derived.RangeFuncLeaves
import Derived.RangeFuncCalls
import Derived.Shelf.Abstract
import Derived.Shelf.RegionOpen
import Derived.TacticsIn
import Derived.RegionIn
import Derived.OwnWalkIn
import Derived.TacticsInMore
import Derived.LoopNIn
import Derived.LoopIn
import Derived.RangeFuncBox
import Derived.Maps.AppendAt
import Derived.Deep.QuietTactic
import Derived.BigQuiet
import Derived.Deep.LoopGhost
namespace Go.Proofs.Ytmemclcoegmjjaa.seqV
open Go.ChangeShapes Go.WideShapes Go.ChangeAt Go.RowKit
open Go.ChangeMaps (open_string shut_string)
set_option linter.unusedVariables false
open Go Ieee Go.RowKit Go.Shelf
open Go.Proofs.Ytmemclcoegmjjaa.slc Go.Proofs.Ytmemclcoegmjjaa.small Go.Proofs.Ytmemclcoegmjjaa.listI Go.Proofs.Ytmemclcoegmjjaa.sortO
attribute [local go_sem] Oper.semAt_some

theorem infoI : (Try.prog.info? 2).map (fun i => (i.zero, i.size, i.bytes)) = some (some (.int .i64 0), 1, 8) := by kernel_rfl
theorem values_i (A : Option Addr) (n c : Nat) (w : World) : Calls Try.prog 151 #[.slice A n c] w fun e w' => e = .returned (.func (.func 170) #[] #[.pointer (some ⟨w.heap.size, 0, none⟩)]) ∧ w' = w.alloc (.cells #[.slice A n c] 59) := by
  go_enter Try.func151, Try.ntmps151
  go_wp2
  go_ret
  exact ⟨rfl, rfl⟩

set_option maxRecDepth 100000 in
set_option maxHeartbeats 2000000 in
theorem val_seq (D n0 : Nat) (A : Option Addr) (c : Nat) (xs : List Int) (w : World) (hl : xs.length ≤ 7) (hD : w.cell? ⟨D, 0, none⟩ = some (.slice A xs.length c)) (hDn : D < n0) (hn0 : n0 ≤ w.heap.size) (hr : Rd w n0 A xs.length (fun j => (ints xs).getD j undef)) :
    SeqStopsK Fence.wide 4 Try.prog 170 #[.pointer (some ⟨D, 0, none⟩)] (fun x : Int => #[.int .i64 x]) (Below n0) (fun l => l = xs) (fun _ => True) 8 w := fun l J Jx W hW hA _ hY hJ0 => by
  have hDW : W.cell? ⟨D, 0, none⟩ = some (.slice A xs.length c) := (hW.cell (p := ⟨D, 0, none⟩) (show D < w.heap.size by omega)).trans hD
  have hRW := hr.below (hW.mono hn0)
  have HYY := Lib.hid hY
  have HJ := Lib.hid (fun (K : List Int) (A A' : World) (h : J K A) (g : A.grownBy A' none) => hA K A A' none h g (fun r e => by cases e))
  have hnW : n0 ≤ W.heap.size := Nat.le_trans hn0 hW.size
  clear hY hW hD hr
  refine callsIn_of_wp Try.func170 rfl trivial ?_ rfl
  simp only [Try.ntmps170, List.size_toArray, List.length_cons, List.length_nil, Nat.reduceAdd, Nat.reduceSub, Array.replicate_succ, Array.replicate_zero, List.push_toArray, List.append_toArray, List.nil_append, List.cons_append]
  have hmx : Try.prog.follows .mixedOrders = true := by kernel_rfl
  gi_wp2
  gi_loopw [7] (fun i wr => ∃ k : Nat, k ≤ xs.length ∧ i = .int .i64 k ∧ Below n0 W wr ∧ J (xs.take k) wr) (fun i _ => xs.length - (intOf i).toNat)
  case atStart => exact ⟨0, Nat.zero_le _, rfl, Below.refl _ _, hJ0⟩
  case round =>
    obtain ⟨k, hk, rfl, hB, hJ⟩ := hrel
    by_cases hlt : k < xs.length
    · obtain ⟨ad, rfl, _, hc⟩ := (hRW.below hB).at_ hlt
      rw [ints_getD xs k hlt] at hc
      obtain ⟨fn, tmps, assign, body, hy, hR⟩ := HYY.out (xs.take k) xs[k] wr hJ (by rw [List.length_take]; omega)
      have HT := Lib.hid (show xs.take k ++ [xs[k]] = xs.take (k + 1) from (List.take_succ_eq_append_getElem hlt).symm)
      have HB := Lib.hid hB
      clear hJ hB
      gi_wp2
      refine hR.mono ?_
      rintro e W3 (⟨rfl, hJ4, hk4⟩ | ⟨rfl, hx4⟩)
      · rw [HT.out] at hJ4
        have HJ4 := Lib.hid (And.intro (HB.out.trans hk4) hJ4)
        clear hJ4 hk4
        gi_wp2
        go_roundw
        case rel => exact ⟨k + 1, by omega, by go_num, HJ4.out⟩
        case measure => simp [intOf]; omega
      · gi_wp2
        refine bodyPost_ret (results_none rfl _ _ _) rfl ?_
        exact ⟨⟨_, rfl⟩, .inr ⟨_, trivial, hx4⟩⟩
    · obtain rfl : k = xs.length := by omega
      rw [List.take_length] at hJ
      gi_wp2
      go_end0
      exact ⟨⟨_, rfl⟩, .inl ⟨_, rfl, hJ⟩⟩

set_option maxRecDepth 100000 in
set_option maxHeartbeats 2000000 in
theorem append_seq (D : Nat) (A : Option Addr) (c : Nat) (xs : List Int) (w : World) (hl : xs.length ≤ 7) (hD : w.cell? ⟨D, 0, none⟩ = some (.slice A xs.length c)) (hDn : D < w.heap.size) (hr : Rd w w.heap.size A xs.length (fun j => (ints xs).getD j undef)) :
    Calls Try.prog 180 #[.slice none 0 0, .func (.func 170) #[] #[.pointer (some ⟨D, 0, none⟩)]] w fun e w' => ∃ v, e = .returned v ∧ w'.ownsRow w.heap.size 2 1 v xs.length (ints xs) ∧ Below w.heap.size w w' := by
  obtain ⟨i0, hi, hz0, hz1, hz2⟩ := info_parts infoI
  refine (callsIn_wide (n := 5)).1 ?_
  refine callsIn_of_wp_marks Try.func180 rfl trivial ?_ rfl
  simp only [Try.ntmps180, List.size_toArray, List.length_cons, List.length_nil, Nat.reduceAdd, Nat.reduceSub, Array.replicate_succ, Array.replicate_zero, List.push_toArray, List.append_toArray, List.nil_append, List.cons_append]
  have hmx : Try.prog.follows .mixedOrders = true := by kernel_rfl
  gi_wp2
  have bO := Boxed.new w 59 (.slice none 0 0)
  have hB0 : Below w.heap.size w (w.alloc (.cells #[.slice none 0 0] 59)) := (Below.refl _ w).alloc (Nat.le_refl _) _
  refine wpIn_rangeFunc_ownG rfl (by omega) (gf := 170) (lb := #[.pointer (some ⟨D, 0, none⟩)]) rfl trivial (enters_of Try.func170 (by kernel_rfl) rfl)
    (val_seq D w.heap.size A c xs _ hl ((hB0.cell (p := ⟨D, 0, none⟩) hDn).trans hD) hDn (by simp) (hr.below hB0)) belowK_t (belowK_b (by simp)) (Below.refl _ _) (fun _ => rfl)
    (fun pre W => (∃ v, Boxed W w.heap.size 59 v ∧ W.ownsRow w.heap.size 2 1 v pre.length (ints pre) ∧ True) ∧ Below w.heap.size w W)
    (fun _ _ _ => False)
    (OwnFrom.and (Own.from (holdsRow_own w.heap.size w.heap.size 59 2 1 (fun pre : List Int => pre.length) (fun pre => ints pre) (fun _ _ => True)) _) (ownFrom_below (Nat.le_refl _) (by simp)))
    (fun _ _ _ _ _ hs _ _ => hs)
    ⟨⟨_, bO, World.ownsRow_nil _ _ _ _, trivial⟩, hB0⟩
    (fun x => { tmps := #[.slice none 0 0, .func (.func 170) #[] #[.pointer (some ⟨D, 0, none⟩)], .pointer (some ⟨w.heap.size, 0, none⟩), undef, .slice none 0 0, .int .i64 x, .func (.func 170) #[] #[.pointer (some ⟨D, 0, none⟩)], .int .i64 x, undef, undef, undef, undef, undef], defers := [] }) ?assign ?body ?done ?stop
  case assign =>
    intro l x W K hK
    gi_wp2
    exact hK
  case body =>
    rintro l pre x W ⟨⟨v, hv, hrow, _⟩, hB⟩ hlt
    have hc := hv.cell
    gi_wp2_with (gi_at_builtin; refine wpListIn_append_own _ rfl _ _ 59 rfl w.heap.size 2 i0 (.int .i64 0) 1 8 Try.underlying59 hi hz0 hz1 hz2 rfl (by decide) _ _ _ rfl (hrow.alloc _) ⟨W.heap.size, 0, none⟩ 1 1 [.int .i64 x] rfl rfl (cell_one_new _ _ _) (by simp [Value.oneCell']) (by unfold maxLen; omega) (by omega) (by have := hB.size; simp; omega) ?_; intro v' w1 hown' hgrow _; obtain ⟨g', cap', rfl⟩ := ownsRow_succ hown'; obtain ⟨hv1, hv2, hr2, hk2, hb2⟩ := hv.appended (by decide) hrow hB.size (Nat.le_refl _) hown' hgrow; have hc1 := hv1.cell; have hf1 := hv1.frozen)
    exact ⟨hk2.from _, hb2, ⟨_, hv2, by rw [List.length_append, ← slc.ints_snoc]; exact hr2, trivial⟩, hB.trans hb2⟩
  case done =>
    rintro D' ys W hD' rfl ⟨⟨v, hv, hrow, _⟩, hB⟩ hK
    have hc := hv.cell
    gi_wp2
    refine ⟨by simp, .inl ⟨_, _, rfl, run_takeDeferred hK, ?_⟩⟩
    exact ⟨_, results_tmp rfl _ _ _, v, rfl, ownsRow_putObj hrow _ hK rfl, hB.trans (belowK_b (w := w) (Nat.le_refl _) W D' _ _ (by simp at hD'; omega) hK rfl rfl)⟩
  case stop =>
    rintro D' c' pre W _ _ h _
    exact h.elim

set_option maxRecDepth 100000 in
set_option maxHeartbeats 2000000 in
/-- slices.Sorted(slices.Values(..)) of at most seven integers: the sorted ones, in a new row. -/
theorem sorted_c (D : Nat) (A : Option Addr) (c : Nat) (xs : List Int) (w : World) (h1 : 1 ≤ xs.length) (hl : xs.length ≤ 7) (hD : w.cell? ⟨D, 0, none⟩ = some (.slice A xs.length c)) (hDn : D < w.heap.size) (hr : Rd w w.heap.size A xs.length (fun j => (ints xs).getD j undef)) :
    Calls Try.prog 150 #[.func (.func 170) #[] #[.pointer (some ⟨D, 0, none⟩)]] w fun e w' => ∃ O d s, e = .returned (.slice O xs.length d) ∧ s.Perm xs ∧ s.Pairwise (fun x y => ¬ iLt y x) ∧ w'.ownsRow w.heap.size 2 1 (.slice O xs.length d) xs.length (ints s) ∧ w.grownBy w' none := by
  have HA := Lib.hid (append_seq D A c xs w hl hD hDn hr)
  clear hD hr
  go_enter Try.func150, Try.ntmps150
  go_wp2_with fail
  have HC := Lib.hid (show Calls Try.prog 168 #[.func (.func 170) #[] #[.pointer (some ⟨D, 0, none⟩)]] w fun e w' => ∃ v, e = .returned v ∧ w'.ownsRow w.heap.size 2 1 v xs.length (ints xs) ∧ Below w.heap.size w w' by
    go_enter Try.func168, Try.ntmps168
    go_wp2_with fail
    refine HA.out.mono ?_
    rintro e w1 ⟨v, rfl, h⟩
    go_wp2_with fail
    go_ret
    exact ⟨v, rfl, h⟩)
  refine HC.out.mono ?_
  rintro e w1 ⟨v, rfl, ho, hb⟩
  obtain ⟨g, cap, rfl⟩ : ∃ g cap, v = .slice (some ⟨g, 0, none⟩) xs.length cap := by
    obtain ⟨g, cap, e, _, _⟩ := ho.form h1
    exact ⟨g, cap, e⟩
  have hgb := own_base ho g rfl
  have HS := Lib.hid (sort_c g xs.length xs.length cap cap w.heap.size xs w1 rfl hl (Nat.le_refl _) (by omega) hgb.1 ho)
  have HB := Lib.hid hb
  clear ho hb
  go_wp2_with fail
  refine HS.out.mono ?_
  rintro e w2 ⟨rfl, s, hp, hs, ho, hg⟩
  rw [List.take_length] at hp
  rw [List.drop_length, List.append_nil] at ho
  have HO := Lib.hid ho
  have HP := Lib.hid (And.intro hp (And.intro hs (gb_new (gb_of_below HB.out) hg (fun q e => by obtain rfl : g = q := Option.some.inj e; exact hgb.1))))
  clear ho hp hs hg
  go_wp2_with fail
  go_ret
  exact ⟨_, _, s, rfl, HP.out.1, HP.out.2.1, HO.out, HP.out.2.2⟩

end Go.Proofs.Ytmemclcoegmjjaa.seqV
