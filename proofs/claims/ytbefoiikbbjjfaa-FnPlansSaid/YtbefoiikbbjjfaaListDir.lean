/- Lists of directions in a law: compared, marked, held, copied. -/
import Derived.Test.YtbefoiikbbjjfaaRows
import Derived.Test.YtbefoiikbbjjfaaSlc
import Derived.Test.YtbefoiikbbjjfaaSmall
import Derived.Test.YtbefoiikbbjjfaaOpens
import Derived.WalkKit
import Derived.ProofKit
import Derived.OpenShut
import Derived.ShutString
import Derived.ChangeOld
import Derived.Below
import Derived.Lib.Hide
import Derived.BigQuiet
import Derived.Deep.QuietTactic
import Derived.WalkLawsBesides
import Derived.Outline
import Derived.Deep.QuietTactic
import Derived.BigQuiet
import Derived.Deep.LoopGhost
import Derived.StillTailTactics
namespace Go.Proofs.Ytbefoiikbbjjfaa.listDir
open Go.ChangeShapes Go.WideShapes Go.ChangeAt Go.RowKit
open Go.ChangeMaps (open_string shut_string)
set_option linter.unusedVariables false
open Go Go.RowKit
open Go.Proofs.Ytbefoiikbbjjfaa.slc Go.Proofs.Ytbefoiikbbjjfaa.small Go.Proofs.Ytbefoiikbbjjfaa.opens

theorem infoD : (Try.prog.info? 64).map (fun i => (i.zero, i.size, i.bytes)) = some (some (.agg #[.int .i64 0, .int .i64 0]), 2, 16) := by kernel_rfl

theorem Rd.two {w : World} {B n : Nat} {A : Option Addr} {f : Nat → Value} (h : Rd w B A (n * 2) f) (hi : Ints f (n * 2)) {k : Nat} (hk : k < n) :
    ∃ ad x y, A = some ad ∧ ad.block < B ∧ f (k * 2) = .int .i64 x ∧ f (k * 2 + 1) = .int .i64 y ∧ w.cell? (ad.add (k * 2)) = some (.int .i64 x) ∧ w.cell? ⟨(ad.add (k * 2)).block, (ad.add (k * 2)).off + 1, none⟩ = some (.int .i64 y) := by
  obtain ⟨ad, e, hb, hc⟩ := h (by omega)
  obtain ⟨x, hx⟩ := hi (k * 2) (by omega)
  obtain ⟨y, hy⟩ := hi (k * 2 + 1) (by omega)
  exact ⟨ad, x, y, e, hb, hx, hy, (hc _ (by omega)).trans (by rw [hx]), by rw [add_next]; exact (hc _ (by omega)).trans (by rw [hy])⟩

theorem eq_dir : True := trivial

set_option maxHeartbeats 400000 in
set_option maxRecDepth 100000 in
theorem eqD_true : True := trivial

set_option maxHeartbeats 400000 in
theorem markD : True := trivial

set_option maxHeartbeats 400000 in
theorem heldD : True := trivial

theorem markD1 : True := trivial
theorem heldD1 : True := trivial

theorem szD : True := trivial
theorem szD_no : True := trivial

theorem made_places (n : Nat) : (madeCells (Value.agg #[.int .i64 0, .int .i64 0]).cells (n * 2)).toList = lst (fun _ => .int .i64 0) (n * 2) := by
  apply List.ext_getElem?
  intro i
  by_cases hi : i < n * 2
  · have : (Value.agg #[.int .i64 0, .int .i64 0]).cells = #[.int .i64 0, .int .i64 0] := rfl
    rw [this]
    have h2 : i % 2 = 0 ∨ i % 2 = 1 := by omega
    rcases h2 with h2 | h2 <;> simp [madeCells, lst, hi, h2]
  · simp [madeCells, lst, hi]

set_option maxHeartbeats 400000 in
set_option maxRecDepth 100000 in
theorem toD : True := trivial

/-- A function answers with a list of places of its own, and a bool. -/
def GivesD (F : Nat) (args : Array Value) (ps : List (Int × Int)) (ok : Bool) : Prop :=
  ∀ w : World, Calls Try.prog F args w fun e w' => ∃ A c, e = .returned (.tuple #[.slice A ps.length c, .bool ok]) ∧ w'.ownsRow w.heap.size 64 2 (.slice A ps.length c) ps.length (lst (pcell ps) (ps.length * 2)) ∧ w.grownBy w' none
theorem pcell_snoc (ps : List (Int × Int)) (x y : Int) : lst (pcell (ps ++ [(x, y)])) ((ps ++ [(x, y)]).length * 2) = lst (pcell ps) (ps.length * 2) ++ [.int .i64 x, .int .i64 y] := by
  apply List.ext_getElem?
  intro i
  by_cases h1 : i < ps.length * 2
  · rw [List.getElem?_append_left (by rw [lst_len]; exact h1), lst_get _ _ _ h1, lst_get _ _ _ (by simp; omega)]
    unfold pcell
    have hi : i / 2 < ps.length := by omega
    simp [List.getD, List.getElem?_append_left hi]
  · rw [List.getElem?_append_right (by rw [lst_len]; omega), lst_len]
    by_cases h2 : i < (ps.length + 1) * 2
    · rw [lst_get _ _ _ (by simpa using h2)]
      have h3 : i = ps.length * 2 ∨ i = ps.length * 2 + 1 := by omega
      have e2 : (ps.length * 2 + 1) / 2 = ps.length := by omega
      rcases h3 with rfl | rfl
      · simp [pcell]
      · simp [pcell, e2, Nat.add_mod]
    · have h3 : ¬ i < (ps ++ [(x, y)]).length * 2 := by simpa using h2
      rw [List.getElem?_eq_none (by rw [lst_len]; omega), List.getElem?_eq_none (by simp; omega)]
theorem pair_one (x y : Int) : ∀ u ∈ [Value.int .i64 x, Value.int .i64 y], u.oneCell' = true := by
  intro u hu
  have : u = .int .i64 x ∨ u = .int .i64 y := by simpa using hu
  rcases this with rfl | rfl <;> rfl
theorem build_dir (w : World) (x y : Int) : (Instr.build 64 #[(0, .int .i64 x), (1, .int .i64 y)]).run Try.prog w = .ok (.agg #[.int .i64 x, .int .i64 y]) w := run_build w 64 _ _ (by kernel_rfl)

end Go.Proofs.Ytbefoiikbbjjfaa.listDir
