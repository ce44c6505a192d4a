/- A list of sources, which are structs of a direction, a number and a seed, opened. -/
/- Lists of sources in a law: compared, copied. -/
/- Valid sources, by the program and the model. -/
import Derived.Test.YtpmjheofjmdfeaaSlc
import Derived.Test.YtpmjheofjmdfeaaRows
import Derived.Test.YtpmjheofjmdfeaaSmall
import Derived.Test.YtpmjheofjmdfeaaOpens
import Derived.Test.YtpmjheofjmdfeaaFloatAll
import Derived.Test.YtpmjheofjmdfeaaFWalk
import Derived.Test.YtpmjheofjmdfeaaSeedAll
import Derived.WalkKit
import Derived.ProofKit
import Derived.OpenShut
import Derived.ShutString
import Derived.ChangeOld
import Derived.Below
import Derived.Lib.Hide
import Derived.BigQuiet
import Derived.Deep.QuietTactic
import Derived.WalkLawsBesides
import Derived.Outline
import Derived.ChangeSlices
import Derived.Deep.Slices
import Derived.Deep.SlicePairs
import Derived.Lib.SmallJoins
import Derived.Deep.LoopGhost
import Derived.StillTailTactics
namespace Go.Proofs.Ytpmjheofjmdfeaa.sources
open Go.ChangeShapes Go.WideShapes Go.ChangeAt Go.RowKit
open Go.ChangeMaps (open_string shut_string)
set_option linter.unusedVariables false
open Go Go.RowKit Go.Joins Go.ChangeShapes Go.WideShapes Go.Deep
open Go.Proofs.Ytpmjheofjmdfeaa.slc

/-- The cells of a list of sources. -/
def scell (ss : List (Int × Int × Nat × Int)) (j : Nat) : Value :=
  if j % 4 = 0 then .int .i64 (ss.getD (j / 4) (0, 0, 0, 0)).1 else if j % 4 = 1 then .int .i64 (ss.getD (j / 4) (0, 0, 0, 0)).2.1
  else if j % 4 = 2 then .float .f32 (ss.getD (j / 4) (0, 0, 0, 0)).2.2.1 else .int .i64 (ss.getD (j / 4) (0, 0, 0, 0)).2.2.2
def SWf (x : Int × Int × Nat × Int) : Prop := (Lit.int .i64 x.1).wf = true ∧ (Lit.int .i64 x.2.1).wf = true ∧ (Lit.float .f32 x.2.2.1).wf = true ∧ (Lit.int .i64 x.2.2.2).wf = true

section
variable {H : Type} {enc : TypeId × Value → H} {P : Program} {w : World} {base : Nat} {spare : Nat → Bool} {held : Bool}

theorem trod_float {k : FloatKind} {fuel : Nat} {t : TypeId} {cs : List Value} {x : DataW H × List MemPlace} (ht : P.underlying t = some (.float k)) (h : DataW.trod enc P w base spare held fuel t cs = some x) : ∃ n, cs = [.float k n] ∧ x = (.lit (.float k n), []) ∧ (Lit.float k n).wf = true := by
  cases fuel with
  | zero => simp [DataW.trod] at h
  | succ n =>
    unfold DataW.trod at h
    rw [ht] at h
    split at h <;> simp_all

theorem opened_sources {t e : TypeId} {f0 f1 f2 g0 g1 : Field} {A : Option Addr} {len cap : Nat} {d : DataW H} {p : List MemPlace} (ht : P.underlying t = some (.slice e)) (he : P.underlying e = some (.struct #[f0, f1, f2]))
    (ce : P.cellsOf e = 4) (o0 : f0.offset = 0) (o1 : f1.offset = 2) (o2 : f2.offset = 3) (c0 : P.cellsOf f0.type = 2) (c1 : P.cellsOf f1.type = 1) (c2 : P.cellsOf f2.type = 1)
    (hd : P.underlying f0.type = some (.struct #[g0, g1])) (p0 : g0.offset = 0) (p1 : g1.offset = 1) (b0 : P.cellsOf g0.type = 1) (b1 : P.cellsOf g1.type = 1)
    (i0 : P.underlying g0.type = some (.int .i64)) (i1 : P.underlying g1.type = some (.int .i64)) (i2 : P.underlying f1.type = some (.float .f32)) (i3 : P.underlying f2.type = some (.int .i64))
    (h : DataW.Trod enc P w base spare held t (.slice A len cap) d p) :
    ∃ ss : List (Int × Int × Nat × Int), ss.length = len ∧ len ≤ maxLen ∧ (∀ x ∈ ss, SWf x) ∧ Rd w w.heap.size A (len * 4) (scell ss) := by
  obtain ⟨fuel, hf⟩ := h
  rcases open_slice ht hf with ⟨hcs, _⟩ | ⟨a, len', cap', m, n, D, Pl, hcs, _, hl, hm, hmm, _, hx⟩
  · simp only [Value.cells, List.cons.injEq, Value.slice.injEq, and_true] at hcs
    obtain ⟨rfl, rfl, rfl⟩ := hcs
    exact ⟨[], rfl, Nat.zero_le _, by simp, Rd.nil⟩
  · simp only [Value.cells, List.cons.injEq, Value.slice.injEq, and_true] at hcs
    obtain ⟨rfl, rfl, rfl⟩ := hcs
    have hle : len ≤ m := by rw [hmm]; split <;> omega
    have hall : ∀ i, i < len → ∃ q : Int × Int × Nat × Int, w.cell? (a.add (i * 4)) = some (.int .i64 q.1) ∧ w.cell? (a.add (i * 4 + 1)) = some (.int .i64 q.2.1) ∧ w.cell? (a.add (i * 4 + 2)) = some (.float .f32 q.2.2.1) ∧ w.cell? (a.add (i * 4 + 3)) = some (.int .i64 q.2.2.2) ∧ SWf q := by
      intro i hi
      obtain ⟨cs', h1, h2⟩ := hx i (by omega)
      rw [ce] at h1
      obtain ⟨_, hlen, hcell⟩ := World.cells?_some h1
      obtain ⟨xs, k, hk, hxy, _, hxl, hf⟩ := DataW.trod_struct he h2
      match xs, hxl, cs', hlen with
      | [y0, y1, y2], _, [v0, v1, v2, v3], _ =>
        have q0 := hf 0 f0 rfl
        have q1 := hf 1 f1 rfl
        have q2 := hf 2 f2 rfl
        simp [o0, o1, o2, c0, c1, c2] at q0 q1 q2
        have e0 := hcell 0 (by omega)
        have e1 := hcell 1 (by omega)
        have e2 := hcell 2 (by omega)
        have e3 := hcell 3 (by omega)
        rw [add_add] at e0 e1 e2 e3
        simp at e0 e1 e2 e3
        obtain ⟨zs, k', hk', _, _, hzl, hg⟩ := DataW.trod_struct hd q0
        match zs, hzl with
        | [z0, z1], _ =>
          have r0 := hg 0 g0 rfl
          have r1 := hg 1 g1 rfl
          simp [p0, p1, b0, b1] at r0 r1
          obtain ⟨x, hx0, _, wx⟩ := DataW.trod_int i0 r0
          obtain ⟨y, hy0, _, wy⟩ := DataW.trod_int i1 r1
          obtain ⟨g, hg0, _, wg⟩ := trod_float i2 q1
          obtain ⟨s, hs0, _, ws⟩ := DataW.trod_int i3 q2
          simp only [List.cons.injEq, and_true] at hx0 hy0 hg0 hs0
          subst hx0 hy0 hg0 hs0
          exact ⟨(x, y, g, s), e0, e1, e2, e3, wx, wy, wg, ws⟩
    obtain ⟨F, hF⟩ := choose_lt hall
    have hget : ∀ i, i < len → ((List.range len).map F).getD i (0, 0, 0, 0) = F i := fun i hi => by simp [List.getD, hi]
    refine ⟨(List.range len).map F, by simp, Nat.le_trans hl hm, ?_, fun h0 => ⟨a, rfl, ?_, fun j hj => ?_⟩⟩
    · intro x hx
      obtain ⟨i, hi, rfl⟩ := List.mem_map.1 hx
      exact (hF i (List.mem_range.1 hi)).2.2.2.2
    · have := World.block_lt_of_cell? w _ (hF 0 (by omega)).1
      rwa [add_block] at this
    · have hi : j / 4 < len := by omega
      obtain ⟨a0, a1, a2, a3, _⟩ := hF (j / 4) hi
      unfold scell
      rw [hget _ hi]
      rcases (show j % 4 = 0 ∨ j % 4 = 1 ∨ j % 4 = 2 ∨ j % 4 = 3 by omega) with hp | hp | hp | hp
      · rw [if_pos hp, ← a0]
        congr 2
        omega
      · rw [if_neg (by omega), if_pos hp, ← a1]
        congr 2
        omega
      · rw [if_neg (by omega), if_neg (by omega), if_pos hp, ← a2]
        congr 2
        omega
      · rw [if_neg (by omega), if_neg (by omega), if_neg (by omega), ← a3]
        congr 2
        omega
end

end Go.Proofs.Ytpmjheofjmdfeaa.sources

namespace Go.Proofs.Ytpmjheofjmdfeaa.listSrc
open Go.ChangeShapes Go.WideShapes Go.ChangeAt Go.RowKit
open Go.ChangeMaps (open_string shut_string)
set_option linter.unusedVariables false
open Go Ieee Go.RowKit
open Go.Proofs.Ytpmjheofjmdfeaa.slc Go.Proofs.Ytpmjheofjmdfeaa.small Go.Proofs.Ytpmjheofjmdfeaa.opens Go.Proofs.Ytpmjheofjmdfeaa.floats Go.Proofs.Ytpmjheofjmdfeaa.round Go.Proofs.Ytpmjheofjmdfeaa.values Go.Proofs.Ytpmjheofjmdfeaa.conv Go.Proofs.Ytpmjheofjmdfeaa.fWalk Go.Proofs.Ytpmjheofjmdfeaa.sources

theorem cv3264 (w : World) (b : Nat) : (convert 35 80 (.float .f32 b)).run Try.prog w = .ok (.float .f64 (cval .f32 w b .f64)) (w.drewN (ccnt .f32 b .f64)) :=
  run_convff w _ _ .f32 .f64 b (by rw [Try.underlying35]; rfl) Try.underlying80
theorem can_wide {a b : Nat} (h : can .f32 a = can .f32 b) (w1 w2 : World) : can .f64 (cval .f32 w1 a .f64) = can .f64 (cval .f32 w2 b .f64) := by
  rw [can_cval (wide_fits _) (by decide), can_cval (wide_fits _) (by decide)]
  rcases can_eq_iff.1 h with h | ⟨h1, h2⟩
  · rw [h]
  · unfold cop
    have e : ∀ x, isNaN .f32 x = true → floatToFloatBits .f32 x .f64 = none := fun x hx => by
      unfold floatToFloatBits
      rw [if_neg (by decide)]
      have h' : (FloatKind.f32.decode x).isNaN = true := hx
      revert h'
      cases FloatKind.f32.decode x <;> simp [Datum.isNaN]
    rw [e a h1, e b h2]

theorem infoS : (Try.prog.info? 37).map (fun i => (i.zero, i.size, i.bytes)) = some (some (.agg #[.int .i64 0, .int .i64 0, .float .f32 0, .int .i64 0]), 4, 32) := by kernel_rfl

theorem eq_dir : True := trivial

theorem run_store_float {P : Program} {w : World} {m : Mode} (a : Addr) (k : FloatKind) (x : Nat) : (store a (.float k x) m).run P w = stored P w a (.float k x) m := run_store P w a _ m rfl
attribute [local go_sem] run_store_float
theorem blocks3 {w w1 : World} {a b c : Obj} (hg : (((w.alloc a).alloc b).alloc c).grownBy w1 none) : w1.heap[w.heap.size]? = some a ∧ w1.heap[w.heap.size + 1]? = some b ∧ w1.heap[w.heap.size + 1 + 1]? = some c := by
  have e1 : (w.alloc a).heap.size = w.heap.size + 1 := by simp
  have e2 : ((w.alloc a).alloc b).heap.size = w.heap.size + 1 + 1 := by simp
  have g2 := (World.grownBy_alloc ((w.alloc a).alloc b) c none).trans hg
  have g1 := (World.grownBy_alloc (w.alloc a) b none).trans g2
  refine ⟨(g1.block _ (by simp) (by simp)).trans (heap_alloc_new w _), ?_, ?_⟩
  · have := (g2.block (w.alloc a).heap.size (by simp) (by simp)).trans (heap_alloc_new (w.alloc a) b)
    rwa [e1] at this
  · have := (hg.block ((w.alloc a).alloc b).heap.size (by simp) (by simp)).trans (heap_alloc_new ((w.alloc a).alloc b) c)
    rwa [e2] at this
theorem block1 {w w1 : World} {a : Obj} (hg : (w.alloc a).grownBy w1 none) : w1.heap[w.heap.size]? = some a := (hg.block _ (by simp) (by simp)).trans (heap_alloc_new w _)
theorem blocks2 {w w1 : World} {a b : Obj} (hg : ((w.alloc a).alloc b).grownBy w1 none) : w1.heap[w.heap.size]? = some a ∧ w1.heap[w.heap.size + 1]? = some b := by
  have e1 : (w.alloc a).heap.size = w.heap.size + 1 := by simp
  have g1 := (World.grownBy_alloc (w.alloc a) b none).trans hg
  refine ⟨(g1.block _ (by simp) (by simp)).trans (heap_alloc_new w _), ?_⟩
  have := (hg.block (w.alloc a).heap.size (by simp) (by simp)).trans (heap_alloc_new (w.alloc a) b)
  rwa [e1] at this
theorem cells4 {w : World} {g : Nat} {x y u v : Value} {t : TypeId} (h : w.heap[g]? = some (.cells #[x, y, u, v] t)) :
    (w.cell? ⟨g, 0, none⟩ = some x ∧ w.cell? ⟨g, 1, none⟩ = some y ∧ w.cell? ⟨g, 2, none⟩ = some u ∧ w.cell? ⟨g, 3, none⟩ = some v) ∧ w.frozen? ⟨g, 0, none⟩ = false ∧ w.frozen? ⟨g, 1, none⟩ = false ∧ w.frozen? ⟨g, 2, none⟩ = false ∧ w.frozen? ⟨g, 3, none⟩ = false :=
  ⟨⟨cell_of_row w _ 0 _ _ _ h, cell_of_row w _ 1 _ _ _ h, cell_of_row w _ 2 _ _ _ h, cell_of_row w _ 3 _ _ _ h⟩, frozen_of_row w _ 0 _ _ h, frozen_of_row w _ 1 _ _ h, frozen_of_row w _ 2 _ _ h, frozen_of_row w _ 3 _ _ h⟩
set_option maxHeartbeats 1600000 in
set_option maxRecDepth 100000 in
theorem to_src : True := trivial

section
attribute [local go_sem] cv3264
set_option maxHeartbeats 400000 in
set_option maxRecDepth 100000 in
theorem eq_src : True := trivial
end

theorem Rd.four {w : World} {B n : Nat} {A : Option Addr} {ss : List (Int × Int × Nat × Int)} (h : Rd w B A (n * 4) (scell ss)) {k : Nat} (hk : k < n) :
    ∃ ad u v s, ∃ g : Nat, A = some ad ∧ ad.block < B ∧ ss.getD k (0, 0, 0, 0) = (u, v, g, s) ∧ w.cell? (ad.add (k * 4)) = some (.int .i64 u) ∧ w.cell? ⟨(ad.add (k * 4)).block, (ad.add (k * 4)).off + 1, none⟩ = some (.int .i64 v) ∧ w.cell? ⟨(ad.add (k * 4)).block, (ad.add (k * 4)).off + 2, none⟩ = some (.float .f32 g) ∧ w.cell? ⟨(ad.add (k * 4)).block, (ad.add (k * 4)).off + 3, none⟩ = some (.int .i64 s) := by
  obtain ⟨ad, e, hb, hc⟩ := h (by omega)
  have a2 : ∀ d, 0 < d → (⟨(ad.add (k * 4)).block, (ad.add (k * 4)).off + d, none⟩ : Addr) = ad.add (k * 4 + d) := fun d hd => by
    unfold Addr.add
    rw [if_neg (show ¬ k * 4 + d = 0 by omega)]
    split
    · rename_i h0
      rw [h0, Nat.zero_add]
    · rw [Nat.add_assoc]
  have e0 := hc (k * 4) (by omega)
  have e1 := hc (k * 4 + 1) (by omega)
  have e2 := hc (k * 4 + 2) (by omega)
  have e3 := hc (k * 4 + 3) (by omega)
  have d0 : k * 4 / 4 = k := by omega
  have d1 : (k * 4 + 1) / 4 = k := by omega
  have d2 : (k * 4 + 2) / 4 = k := by omega
  have d3 : (k * 4 + 3) / 4 = k := by omega
  have m0 : k * 4 % 4 = 0 := by omega
  have m1 : (k * 4 + 1) % 4 = 1 := by omega
  have m2 : (k * 4 + 2) % 4 = 2 := by omega
  have m3 : (k * 4 + 3) % 4 = 3 := by omega
  simp only [scell, d0, m0, if_pos] at e0
  simp only [scell, d1, m1, if_pos, if_neg (show ¬ (1 = 0) by decide)] at e1
  simp only [scell, d2, m2, if_pos, if_neg (show ¬ (2 = 0) by decide), if_neg (show ¬ (2 = 1) by decide)] at e2
  simp only [scell, d3, m3, if_neg (show ¬ (3 = 0) by decide), if_neg (show ¬ (3 = 1) by decide), if_neg (show ¬ (3 = 2) by decide)] at e3
  exact ⟨ad, _, _, _, _, e, hb, rfl, e0, by rw [a2 _ (by decide)]; exact e1, by rw [a2 _ (by decide)]; exact e2, by rw [a2 _ (by decide)]; exact e3⟩

set_option maxHeartbeats 400000 in
set_option maxRecDepth 100000 in
theorem eqS_true : True := trivial

theorem szS : True := trivial
theorem szS_no : True := trivial

/-- The cells of a source that is none. -/
def zc (j : Nat) : Value := if j % 4 = 2 then .float .f32 0 else .int .i64 0
theorem made_srcs (n : Nat) : (madeCells (Value.agg #[.int .i64 0, .int .i64 0, .float .f32 0, .int .i64 0]).cells (n * 4)).toList = lst zc (n * 4) := by
  apply List.ext_getElem?
  intro i
  by_cases hi : i < n * 4
  · have : (Value.agg #[.int .i64 0, .int .i64 0, .float .f32 0, .int .i64 0]).cells = #[.int .i64 0, .int .i64 0, .float .f32 0, .int .i64 0] := rfl
    rw [this]
    have h2 : i % 4 = 0 ∨ i % 4 = 1 ∨ i % 4 = 2 ∨ i % 4 = 3 := by omega
    rcases h2 with h2 | h2 | h2 | h2 <;> simp [madeCells, lst, zc, hi, h2]
  · simp [madeCells, lst, hi]

set_option maxHeartbeats 1600000 in
set_option maxRecDepth 100000 in
theorem toS : True := trivial

theorem szS2 : True := trivial
theorem szS2_no : True := trivial
theorem cvif (w : World) (n : Int) : (convert 3 35 (.int .i64 n)).run Try.prog w = .ok (.float .f32 (floatOfInt .f32 n)) w :=
  run_convert_int_float w _ _ .i64 .f32 n (by rw [Try.underlying3]; rfl) Try.underlying35
def setc (f : Nat → Value) (j : Nat) (v : Value) : Nat → Value := fun i => if i = j then v else f i
theorem lst_setc (f : Nat → Value) (n j : Nat) (v : Value) : (lst f n).set j v = lst (setc f j v) n := by
  apply List.ext_getElem?
  intro i
  rw [List.getElem?_set]
  by_cases e : j = i
  · subst e
    by_cases hn : j < n
    · rw [if_pos rfl, if_pos (by rw [lst_len]; exact hn), lst_get _ _ _ hn]; simp [setc]
    · rw [if_pos rfl, if_neg (by rw [lst_len]; exact hn), List.getElem?_eq_none (by rw [lst_len]; omega)]
  · rw [if_neg e]
    by_cases hn : i < n
    · rw [lst_get _ _ _ hn, lst_get _ _ _ hn]; simp [setc, Ne.symm e]
    · rw [List.getElem?_eq_none (by rw [lst_len]; omega), List.getElem?_eq_none (by rw [lst_len]; omega)]
section
attribute [local go_sem] cvif
set_option maxHeartbeats 1600000 in
set_option maxRecDepth 100000 in
theorem markS : True := trivial
end

end Go.Proofs.Ytpmjheofjmdfeaa.listSrc

namespace Go.Proofs.Ytpmjheofjmdfeaa.srcs
open Go.ChangeShapes Go.WideShapes Go.ChangeAt Go.RowKit
open Go.ChangeMaps (open_string shut_string)
set_option linter.unusedVariables false
open Go Ieee Go.RowKit
open Go.Proofs.Ytpmjheofjmdfeaa.slc Go.Proofs.Ytpmjheofjmdfeaa.small Go.Proofs.Ytpmjheofjmdfeaa.sources Go.Proofs.Ytpmjheofjmdfeaa.listSrc Go.Proofs.Ytpmjheofjmdfeaa.seeds

attribute [local go_sem] run_store_float
/-- A valid source. -/
def sb (x : Int × Int × Nat × Int) : Bool := dirB x.1 x.2.1 && decide (0 ≤ x.2.2.2 ∧ x.2.2.2 ≤ 2147483647)
/-- Valid sources. -/
def vs (ss : List (Int × Int × Nat × Int)) : Bool := decide (ss.length ≤ 4) && ss.all sb
theorem vs_bad {ss : List (Int × Int × Nat × Int)} {k : Nat} (hk : k < ss.length) (h : sb (ss.getD k (0, 0, 0, 0)) = false) : vs ss = false := by
  unfold vs
  rw [show ss.all sb = false from by
    rw [List.all_eq_false]
    refine ⟨ss[k], List.getElem_mem hk, ?_⟩
    rw [show ss.getD k (0, 0, 0, 0) = ss[k] by simp [List.getD, hk]] at h
    simp [h]]
  simp
def Upto (ss : List (Int × Int × Nat × Int)) (k : Nat) : Prop := ∀ j, j < k → sb (ss.getD j (0, 0, 0, 0)) = true
theorem Upto.zero (ss : List (Int × Int × Nat × Int)) : Upto ss 0 := fun j h => absurd h (by omega)
theorem Upto.succ {ss : List (Int × Int × Nat × Int)} {k : Nat} (h : Upto ss k) (hk : sb (ss.getD k (0, 0, 0, 0)) = true) : Upto ss (k + 1) := fun j hj => by
  by_cases e : j = k
  · subst e; exact hk
  · exact h j (by omega)
theorem Upto.vs {ss : List (Int × Int × Nat × Int)} (h : Upto ss ss.length) (hl : ss.length ≤ 4) : vs ss = true := by
  unfold srcs.vs
  rw [decide_eq_true hl, show ss.all sb = true from ?_]
  · rfl
  · rw [List.all_eq_true]
    intro x hx
    obtain ⟨k, hk, rfl⟩ := List.getElem_of_mem hx
    have := h k hk
    rwa [show ss.getD k (0, 0, 0, 0) = ss[k] by simp [List.getD, hk]] at this

set_option maxHeartbeats 800000 in
set_option maxRecDepth 100000 in
theorem srcs_impl (A : Option Addr) (c B : Nat) (ss : List (Int × Int × Nat × Int)) (w : World) (hm : ss.length ≤ 9223372036854775807) (hr : Rd w B A (ss.length * 4) (scell ss)) (hB : B ≤ w.heap.size) :
    Calls Try.prog 29 #[.slice A ss.length c] w fun e w' => e = .returned (.bool (vs ss)) ∧ w.grownBy w' none := by
  by_cases hl : 4 < ss.length
  · have HV := Lib.hid (show vs ss = false by unfold vs; rw [decide_eq_false (by omega)]; rfl)
    go_enter Try.func29, Try.ntmps29
    go_wp2_with fail
    go_ret
    exact ⟨ret_bool HV.out.symm, World.grownBy.refl _ _⟩
  · have hl4 : ss.length ≤ 4 := by omega
    clear hl
    go_enter Try.func29, Try.ntmps29
    go_wp2_with fail
    go_loopw [10] (fun i wr => ∃ k : Nat, k ≤ ss.length ∧ i = .int .i64 k ∧ Upto ss k ∧ w.grownBy wr none) (fun i _ => ss.length - (intOf i).toNat)
    case atStart => exact ⟨0, Nat.zero_le _, rfl, Upto.zero _, World.grownBy.refl _ _⟩
    case round =>
      obtain ⟨k, hk, rfl, hpre, hg⟩ := hrel
      by_cases hlt : k < ss.length
      · obtain ⟨ad, u, v, s, g, rfl, _, hx, hc0, hc1, hc2, hc3⟩ := Rd.four (hr.kept0 hg hB) hlt
        have HPR := Lib.hid hpre
        have HX := Lib.hid hx
        have HG := Lib.hid hg
        clear hpre hx hg
        go_wp2_with fail
        refine (dir_impl _ _ _).mono ?_
        rintro e w1 ⟨rfl, hg1⟩
        obtain ⟨⟨_, _, _, b3⟩, _⟩ := cells4 (block1 hg1)
        have HG1 := Lib.hid (HG.out.trans ((World.grownBy_alloc _ _ none).trans hg1))
        clear hc0 hc1 hc2 hc3 hg1
        cases hd : dirB u v
        · have HV := Lib.hid (vs_bad hlt (by rw [HX.out]; unfold sb; rw [hd]; rfl))
          clear hd
          go_wp2_with fail
          go_ret
          exact ⟨ret_bool HV.out.symm, HG1.out⟩
        · by_cases hs : 0 ≤ s ∧ s ≤ 2147483647
          · have HU := Lib.hid (HPR.out.succ (by rw [HX.out]; unfold sb; rw [hd, decide_eq_true hs]; rfl))
            obtain ⟨s0, s1⟩ := hs
            clear hd
            go_wp2_with fail
            refine (seed_yes _ _ s0 s1).mono ?_
            rintro e w' ⟨rfl, rfl⟩
            go_wp2_with fail
            go_roundw
            case rel => exact ⟨k + 1, by omega, by go_num, HU.out, HG1.out⟩
            case measure => simp [intOf]; omega
          · have HV := Lib.hid (vs_bad hlt (by rw [HX.out]; unfold sb; rw [hd, decide_eq_false hs]; rfl))
            have HS := Lib.hid (show s < 0 ∨ 2147483647 < s by omega)
            clear hd hs
            go_wp2_with fail
            refine (seed_no _ _ HS.out).mono ?_
            rintro e w' ⟨rfl, rfl⟩
            go_wp2_with fail
            go_ret
            exact ⟨ret_bool HV.out.symm, HG1.out⟩
      · obtain rfl : k = ss.length := by omega
        have HV := Lib.hid (hpre.vs hl4)
        clear hpre
        go_wp2_with fail
        go_ret
        exact ⟨ret_bool HV.out.symm, hg⟩
set_option maxHeartbeats 800000 in
set_option maxRecDepth 100000 in
theorem srcs_spec : True := trivial
theorem srcs_valid : True := trivial

end Go.Proofs.Ytpmjheofjmdfeaa.srcs
