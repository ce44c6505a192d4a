/- Lists of 32-bit numbers in a law: opened, copied, compared. -/
import Derived.Test.YtdanlghaiekeaaaRows
import Derived.Test.YtdanlghaiekeaaaSlc
import Derived.Test.YtdanlghaiekeaaaFloats
import Derived.Test.YtdanlghaiekeaaaRound
import Derived.Test.YtdanlghaiekeaaaValues
import Derived.Test.YtdanlghaiekeaaaConv
import Derived.Test.YtdanlghaiekeaaaFWalk
import Derived.WalkKit
import Derived.ProofKit
import Derived.OpenShut
import Derived.ShutString
import Derived.ChangeOld
import Derived.Below
import Derived.Lib.Hide
import Derived.BigQuiet
import Derived.Deep.QuietTactic
import Derived.WalkLawsBesides
import Derived.Outline
import Derived.Deep.QuietTactic
import Derived.BigQuiet
import Derived.Deep.LoopGhost
import Derived.Deep.RegionHeld3
import Derived.ChangeSlices
import Derived.Deep.Slices
namespace Go.Proofs.Ytdanlghaiekeaaa.listF
open Go.ChangeShapes Go.WideShapes Go.ChangeAt Go.RowKit
open Go.ChangeMaps (open_string shut_string)
set_option linter.unusedVariables false
open Go Ieee Go.RowKit Go.ChangeShapes Go.WideShapes Go.Deep
open Go.Proofs.Ytdanlghaiekeaaa.slc Go.Proofs.Ytdanlghaiekeaaa.floats Go.Proofs.Ytdanlghaiekeaaa.round Go.Proofs.Ytdanlghaiekeaaa.values Go.Proofs.Ytdanlghaiekeaaa.conv Go.Proofs.Ytdanlghaiekeaaa.fWalk

theorem info32 : (Try.prog.info? 44).map (fun i => (i.zero, i.size, i.bytes)) = some (some (.float .f32 0), 1, 4) := by kernel_rfl
/-- The cells of numbers. -/
def fl (x : Nat → Nat) (j : Nat) : Value := .float .f32 (x j)
theorem cv3264 (w : World) (b : Nat) : (convert 44 43 (.float .f32 b)).run Try.prog w = .ok (.float .f64 (cval .f32 w b .f64)) (w.drewN (ccnt .f32 b .f64)) :=
  run_convff w _ _ .f32 .f64 b (by rw [Try.underlying44]; rfl) Try.underlying43

section
variable {H : Type} {enc : TypeId × Value → H} {P : Program} {w : World} {base : Nat} {spare : Nat → Bool} {held : Bool}
theorem trod_float {k : FloatKind} {fuel : Nat} {t : TypeId} {cs : List Value} {x : DataW H × List MemPlace} (ht : P.underlying t = some (.float k)) (h : DataW.trod enc P w base spare held fuel t cs = some x) : ∃ n, cs = [.float k n] ∧ x = (.lit (.float k n), []) ∧ (Lit.float k n).wf = true := by
  cases fuel with
  | zero => simp [DataW.trod] at h
  | succ n =>
    unfold DataW.trod at h
    rw [ht] at h
    split at h <;> simp_all
theorem opened_floats {t e : TypeId} {A : Option Addr} {len cap : Nat} {d : DataW H} {p : List MemPlace} (ht : P.underlying t = some (.slice e)) (he : P.underlying e = some (.float .f32)) (hc : P.cellsOf e = 1)
    (h : DataW.Trod enc P w base spare held t (.slice A len cap) d p) :
    ∃ x : Nat → Nat, len ≤ cap ∧ cap ≤ maxLen ∧ (∀ j, j < len → (Lit.float .f32 (x j)).wf = true) ∧ Rd w w.heap.size A len (fl x) := by
  obtain ⟨fuel, hf⟩ := h
  rcases open_slice1 ht hc hf with ⟨hcs, _⟩ | ⟨a, len', cap', m, n, V, D, Pl, hcs, _, hl, hm, hmm, _, hx⟩
  · simp only [Value.cells, List.cons.injEq, Value.slice.injEq, and_true] at hcs
    obtain ⟨rfl, rfl, rfl⟩ := hcs
    exact ⟨fun _ => 0, Nat.le_refl _, Nat.zero_le _, fun j hj => absurd hj (by omega), Rd.nil⟩
  · simp only [Value.cells, List.cons.injEq, Value.slice.injEq, and_true] at hcs
    obtain ⟨rfl, rfl, rfl⟩ := hcs
    have hle : len ≤ m := by rw [hmm]; split <;> omega
    have hall : ∀ i, i < len → ∃ q : Nat, V i = .float .f32 q ∧ (Lit.float .f32 q).wf = true := by
      intro i hi
      obtain ⟨y, e1, _, w1⟩ := trod_float he (hx i (by omega)).2
      simp only [List.cons.injEq, and_true] at e1
      exact ⟨y, e1, w1⟩
    obtain ⟨F, hF⟩ := choose_lt hall
    refine ⟨F, hl, hm, fun j hj => (hF j hj).2, fun h0 => ⟨a, rfl, ?_, fun j hj => ?_⟩⟩
    · have := World.block_lt_of_cell? w _ (hx 0 (by omega)).1
      rwa [add_block] at this
    · rw [(hx j (by omega)).1, (hF j hj).1]; rfl
end

theorem run_store_float {P : Program} {w : World} {m : Mode} (a : Addr) (k : FloatKind) (x : Nat) : (store a (.float k x) m).run P w = stored P w a (.float k x) m := run_store P w a _ m rfl
attribute [local go_sem] run_store_float
set_option maxHeartbeats 400000 in
theorem toF : True := trivial

attribute [local go_sem] cv3264
theorem gbD {a b : World} (h : a.grownBy b none) (k : Nat) : a.grownBy (b.drewN k) none := h.trans (gb_drewN _ _ _)
theorem same_g (a b : Nat) (w : World) (h : can .f64 a = can .f64 b) : Calls Try.prog 191 #[.float .f64 a, .float .f64 b] w fun e w' => e = .returned (.bool true) ∧ w.grownBy w' none :=
  (same_float a b w h).mono fun _ _ ⟨h1, n, h2⟩ => ⟨h1, h2 ▸ gb_drewN _ _ _⟩
set_option maxHeartbeats 800000 in
theorem eqF_true : True := trivial

end Go.Proofs.Ytdanlghaiekeaaa.listF
