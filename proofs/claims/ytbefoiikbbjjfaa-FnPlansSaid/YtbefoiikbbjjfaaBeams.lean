/- A list of beams, which are structs of a direction and two integers, opened. -/
import Derived.Test.YtbefoiikbbjjfaaSlc
import Derived.WalkKit
import Derived.ProofKit
import Derived.OpenShut
import Derived.ShutString
import Derived.ChangeOld
import Derived.Below
import Derived.Lib.Hide
import Derived.BigQuiet
import Derived.Deep.QuietTactic
import Derived.WalkLawsBesides
import Derived.Outline
import Derived.ChangeSlices
import Derived.Deep.Slices
import Derived.Deep.SlicePairs
import Derived.Lib.SmallJoins
namespace Go.Proofs.Ytbefoiikbbjjfaa.beams
open Go.ChangeShapes Go.WideShapes Go.ChangeAt Go.RowKit
open Go.ChangeMaps (open_string shut_string)
set_option linter.unusedVariables false
open Go Go.RowKit Go.Joins Go.ChangeShapes Go.WideShapes Go.Deep
open Go.Proofs.Ytbefoiikbbjjfaa.slc

/-- The cells of a list of beams. -/
def bcell (ss : List (Int × Int × Int × Int)) (j : Nat) : Value :=
  if j % 4 = 0 then .int .i64 (ss.getD (j / 4) (0, 0, 0, 0)).1 else if j % 4 = 1 then .int .i64 (ss.getD (j / 4) (0, 0, 0, 0)).2.1
  else if j % 4 = 2 then .int .i64 (ss.getD (j / 4) (0, 0, 0, 0)).2.2.1 else .int .i64 (ss.getD (j / 4) (0, 0, 0, 0)).2.2.2
def BWf (x : Int × Int × Int × Int) : Prop := (Lit.int .i64 x.1).wf = true ∧ (Lit.int .i64 x.2.1).wf = true ∧ (Lit.int .i64 x.2.2.1).wf = true ∧ (Lit.int .i64 x.2.2.2).wf = true
theorem bcell_ints (ps : List (Int × Int × Int × Int)) (n : Nat) : Ints (bcell ps) n := fun j _ => by
  unfold bcell
  repeat' split
  all_goals exact ⟨_, rfl⟩

section
variable {H : Type} {enc : TypeId × Value → H} {P : Program} {w : World} {base : Nat} {spare : Nat → Bool} {held : Bool}

theorem opened_beams {t e : TypeId} {f0 f1 f2 g0 g1 : Field} {A : Option Addr} {len cap : Nat} {d : DataW H} {p : List MemPlace} (ht : P.underlying t = some (.slice e)) (he : P.underlying e = some (.struct #[f0, f1, f2]))
    (ce : P.cellsOf e = 4) (o0 : f0.offset = 0) (o1 : f1.offset = 2) (o2 : f2.offset = 3) (c0 : P.cellsOf f0.type = 2) (c1 : P.cellsOf f1.type = 1) (c2 : P.cellsOf f2.type = 1)
    (hd : P.underlying f0.type = some (.struct #[g0, g1])) (p0 : g0.offset = 0) (p1 : g1.offset = 1) (b0 : P.cellsOf g0.type = 1) (b1 : P.cellsOf g1.type = 1)
    (i0 : P.underlying g0.type = some (.int .i64)) (i1 : P.underlying g1.type = some (.int .i64)) (i2 : P.underlying f1.type = some (.int .i64)) (i3 : P.underlying f2.type = some (.int .i64))
    (h : DataW.Trod enc P w base spare held t (.slice A len cap) d p) :
    ∃ ss : List (Int × Int × Int × Int), ss.length = len ∧ len ≤ maxLen ∧ (∀ x ∈ ss, BWf x) ∧ Rd w w.heap.size A (len * 4) (bcell ss) := by
  obtain ⟨fuel, hf⟩ := h
  rcases open_slice ht hf with ⟨hcs, _⟩ | ⟨a, len', cap', m, n, D, Pl, hcs, _, hl, hm, hmm, _, hx⟩
  · simp only [Value.cells, List.cons.injEq, Value.slice.injEq, and_true] at hcs
    obtain ⟨rfl, rfl, rfl⟩ := hcs
    exact ⟨[], rfl, Nat.zero_le _, by simp, Rd.nil⟩
  · simp only [Value.cells, List.cons.injEq, Value.slice.injEq, and_true] at hcs
    obtain ⟨rfl, rfl, rfl⟩ := hcs
    have hle : len ≤ m := by rw [hmm]; split <;> omega
    have hall : ∀ i, i < len → ∃ q : Int × Int × Int × Int, w.cell? (a.add (i * 4)) = some (.int .i64 q.1) ∧ w.cell? (a.add (i * 4 + 1)) = some (.int .i64 q.2.1) ∧ w.cell? (a.add (i * 4 + 2)) = some (.int .i64 q.2.2.1) ∧ w.cell? (a.add (i * 4 + 3)) = some (.int .i64 q.2.2.2) ∧ BWf q := by
      intro i hi
      obtain ⟨cs', h1, h2⟩ := hx i (by omega)
      rw [ce] at h1
      obtain ⟨_, hlen, hcell⟩ := World.cells?_some h1
      obtain ⟨xs, k, hk, hxy, _, hxl, hf⟩ := DataW.trod_struct he h2
      match xs, hxl, cs', hlen with
      | [y0, y1, y2], _, [v0, v1, v2, v3], _ =>
        have q0 := hf 0 f0 rfl
        have q1 := hf 1 f1 rfl
        have q2 := hf 2 f2 rfl
        simp [o0, o1, o2, c0, c1, c2] at q0 q1 q2
        have e0 := hcell 0 (by omega)
        have e1 := hcell 1 (by omega)
        have e2 := hcell 2 (by omega)
        have e3 := hcell 3 (by omega)
        rw [add_add] at e0 e1 e2 e3
        simp at e0 e1 e2 e3
        obtain ⟨zs, k', hk', _, _, hzl, hg⟩ := DataW.trod_struct hd q0
        match zs, hzl with
        | [z0, z1], _ =>
          have r0 := hg 0 g0 rfl
          have r1 := hg 1 g1 rfl
          simp [p0, p1, b0, b1] at r0 r1
          obtain ⟨x, hx0, _, wx⟩ := DataW.trod_int i0 r0
          obtain ⟨y, hy0, _, wy⟩ := DataW.trod_int i1 r1
          obtain ⟨g, hg0, _, wg⟩ := DataW.trod_int i2 q1
          obtain ⟨s, hs0, _, ws⟩ := DataW.trod_int i3 q2
          simp only [List.cons.injEq, and_true] at hx0 hy0 hg0 hs0
          subst hx0 hy0 hg0 hs0
          exact ⟨(x, y, g, s), e0, e1, e2, e3, wx, wy, wg, ws⟩
    obtain ⟨F, hF⟩ := choose_lt hall
    have hget : ∀ i, i < len → ((List.range len).map F).getD i (0, 0, 0, 0) = F i := fun i hi => by simp [List.getD, hi]
    refine ⟨(List.range len).map F, by simp, Nat.le_trans hl hm, ?_, fun h0 => ⟨a, rfl, ?_, fun j hj => ?_⟩⟩
    · intro x hx
      obtain ⟨i, hi, rfl⟩ := List.mem_map.1 hx
      exact (hF i (List.mem_range.1 hi)).2.2.2.2
    · have := World.block_lt_of_cell? w _ (hF 0 (by omega)).1
      rwa [add_block] at this
    · have hi : j / 4 < len := by omega
      obtain ⟨a0, a1, a2, a3, _⟩ := hF (j / 4) hi
      unfold bcell
      rw [hget _ hi]
      rcases (show j % 4 = 0 ∨ j % 4 = 1 ∨ j % 4 = 2 ∨ j % 4 = 3 by omega) with hp | hp | hp | hp
      · rw [if_pos hp, ← a0]
        congr 2
        omega
      · rw [if_neg (by omega), if_pos hp, ← a1]
        congr 2
        omega
      · rw [if_neg (by omega), if_neg (by omega), if_pos hp, ← a2]
        congr 2
        omega
      · rw [if_neg (by omega), if_neg (by omega), if_neg (by omega), ← a3]
        congr 2
        omega
end

end Go.Proofs.Ytbefoiikbbjjfaa.beams
