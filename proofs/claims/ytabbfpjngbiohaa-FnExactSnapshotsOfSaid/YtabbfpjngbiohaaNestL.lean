/- Lists of lists that are made row by row. -/
import Derived.Test.YtabbfpjngbiohaaRows
import Derived.Test.YtabbfpjngbiohaaSlc
import Derived.Test.YtabbfpjngbiohaaFloats
import Derived.Test.YtabbfpjngbiohaaRound
import Derived.Test.YtabbfpjngbiohaaValues
import Derived.Test.YtabbfpjngbiohaaConv
import Derived.Test.YtabbfpjngbiohaaFWalk
import Derived.Test.YtabbfpjngbiohaaFinWalk
import Derived.Test.YtabbfpjngbiohaaFloat2
import Derived.Test.YtabbfpjngbiohaaFloat3
import Derived.Test.YtabbfpjngbiohaaPhase
import Derived.Test.YtabbfpjngbiohaaSine
import Derived.Test.YtabbfpjngbiohaaPhasor
import Derived.Test.YtabbfpjngbiohaaListC
import Derived.Test.YtabbfpjngbiohaaListCC
import Derived.Test.YtabbfpjngbiohaaNest
import Derived.WalkKit
import Derived.ProofKit
import Derived.OpenShut
import Derived.ShutString
import Derived.ChangeOld
import Derived.Below
import Derived.Lib.Hide
import Derived.BigQuiet
import Derived.Deep.QuietTactic
import Derived.WalkLawsBesides
import Derived.Outline
import Derived.Deep.QuietTactic
import Derived.BigQuiet
import Derived.Deep.LoopGhost
import Derived.Laws.ComplexArith
namespace Go.Proofs.Ytabbfpjngbiohaa.nestL
open Go.ChangeShapes Go.WideShapes Go.ChangeAt Go.RowKit
open Go.ChangeMaps (open_string shut_string)
set_option linter.unusedVariables false
open Go Ieee Go.RowKit
open Go.Proofs.Ytabbfpjngbiohaa.slc Go.Proofs.Ytabbfpjngbiohaa.listC Go.Proofs.Ytabbfpjngbiohaa.listCC Go.Proofs.Ytabbfpjngbiohaa.nest

theorem infoR : (Try.prog.info? 24).map (fun i => (i.zero, i.size, i.bytes)) = some (some (.slice none 0 0), 1, 24) := by kernel_rfl
theorem run_store_slice {P : Program} {w : World} {md : Mode} (a : Addr) (A : Option Addr) (n c : Nat) : (store a (.slice A n c) md).run P w = stored P w a (.slice A n c) md := run_store P w a _ md rfl
theorem one_slice (A : Option Addr) (n c : Nat) : ∀ u ∈ [Value.slice A n c], u.oneCell' = true := by
  intro u hu
  rw [List.mem_singleton] at hu
  subst hu; rfl
theorem lst_succ (f : Nat → Value) (n : Nat) : lst f (n + 1) = lst f n ++ [f n] := by simp [lst, List.range_succ]
def nv : Nat → Value := fun _ => .slice none 0 0
/-- Rows below i are stored, with the contents f. -/
structure LI (W : World) (ob : Nat) (wr : World) (n m : Nat) (f : Nat → Nat → Value) (a c : Nat → Nat) (i : Nat) : Prop where
  outer : wr.ownsRow ob 24 1 (.slice (some ⟨ob, 0, none⟩) n n) n (lst (mix (orow a c m) nv i) n)
  rows : ∀ k, k < i → wr.ownsRow (ob + 1) 36 1 (orow a c m k) m (lst (f k) m)
  apart : ∀ j k, j < i → k < i → j ≠ k → a j ≠ a k
  gb : W.grownBy wr none
  lo : W.heap.size ≤ ob
  sz : ob < wr.heap.size
section
variable {W wr w2 : World} {ob n m i : Nat} {f : Nat → Nat → Value} {a c : Nat → Nat}
theorem LI.row_at (h : LI W ob wr n m f a c i) {k : Nat} (hk : k < i) : ob + 1 ≤ a k ∧ a k < wr.heap.size := own_base (h.rows k hk) (a k) rfl
theorem LI.kept (h : LI W ob wr n m f a c i) (hg : wr.grownBy w2 none) : LI W ob w2 n m f a c i :=
  ⟨own_kept0 h.outer hg, fun k hk => own_kept0 (h.rows k hk) hg, h.apart, h.gb.trans hg, h.lo, Nat.lt_of_lt_of_le h.sz hg.size⟩
theorem LI.lay (h : LI W ob wr n m f a c i) (hi : i < n) {g cp : Nat} {fr : Nat → Value} (hg : wr.grownBy w2 none) (ho : w2.ownsRow wr.heap.size 36 1 (.slice (some ⟨g, 0, none⟩) m cp) m (lst fr m)) :
    LI W ob (w2.setCell ⟨ob, i, none⟩ (.slice (some ⟨g, 0, none⟩) m cp)) n m (fun k => if k = i then fr else f k) (fun k => if k = i then g else a k) (fun k => if k = i then cp else c k) (i + 1) := by
  have h2 := h.kept hg
  have hsz := h.sz
  have hbg := own_base ho g rfl
  have e1 : mix (orow (fun k => if k = i then g else a k) (fun k => if k = i then cp else c k) m) nv i = mix (orow a c m) nv i := by
    funext k
    unfold mix orow
    dsimp only
    by_cases hk : k < i
    · rw [if_pos hk, if_pos hk, if_neg (by omega), if_neg (by omega)]
    · rw [if_neg hk, if_neg hk]
  have e2 : orow (fun k => if k = i then g else a k) (fun k => if k = i then cp else c k) m i = .slice (some ⟨g, 0, none⟩) m cp := by simp [orow]
  obtain ⟨p1, q1⟩ := h2.outer.stored i (.slice (some ⟨g, 0, none⟩) m cp)
  refine ⟨?_, fun k hk => ?_, fun j k hj hk hne => ?_, gb_new h2.gb q1 (by intro g e; injection e with e; have := h.lo; omega), h.lo, Nat.lt_of_lt_of_le h2.sz q1.size⟩
  · rw [← mix_set _ _ _ _ hi, e1, e2]
    exact p1
  · by_cases e : k = i
    · subst e
      rw [e2, if_pos rfl]
      exact own_mono (World.ownsRow.kept ho q1 (.inr (by simp [Value.ownBlock]; omega))) (by omega)
    · have hk' : k < i := by omega
      have := h2.row_at hk'
      rw [if_neg e, show orow (fun k => if k = i then g else a k) (fun k => if k = i then cp else c k) m k = orow a c m k by simp [orow, e]]
      exact World.ownsRow.kept (h2.rows k hk') q1 (.inr (by simp [orow, Value.ownBlock]; omega))
  · by_cases ej : j = i
    · have hk' : k < i := by omega
      have := h.row_at hk'
      simp only [ej, if_pos, if_neg (show ¬ k = i by omega)]
      omega
    · have hj' : j < i := by omega
      have := h.row_at hj'
      by_cases ek : k = i
      · simp only [ek, if_pos, if_neg ej]
        omega
      · simp only [if_neg ej, if_neg ek]
        exact h.apart j k hj' (by omega) hne
theorem LI.own (h : LI W ob wr n m f a c n) : OwnN wr W.heap.size (.slice (some ⟨ob, 0, none⟩) n n) n m a c f :=
  ⟨by rw [← mix_full _ nv]; exact own_mono h.outer h.lo, fun k hk => own_mono (h.rows k hk) (by have := h.lo; omega), h.apart, fun k hk => by
    have := h.row_at hk
    simp [Value.ownBlock]
    omega⟩
end
/-- i rows are appended. -/
structure LS (W wr : World) (b cp m : Nat) (f : Nat → Nat → Value) (a c : Nat → Nat) (i : Nat) : Prop where
  outer : wr.ownsRow W.heap.size 24 1 (.slice (some ⟨b, 0, none⟩) i cp) i (lst (orow a c m) i)
  rows : ∀ k, k < i → wr.ownsRow W.heap.size 36 1 (orow a c m k) m (lst (f k) m)
  apart : ∀ j k, j < i → k < i → j ≠ k → a j ≠ a k
  other : ∀ k, k < i → a k ≠ b
  gb : W.grownBy wr none
section
variable {W wr : World} {b cp m i : Nat} {f : Nat → Nat → Value} {a c : Nat → Nat}
theorem LS.row_at (h : LS W wr b cp m f a c i) {k : Nat} (hk : k < i) : W.heap.size ≤ a k ∧ a k < wr.heap.size := own_base (h.rows k hk) (a k) rfl
theorem LS.b_at (h : LS W wr b cp m f a c i) : W.heap.size ≤ b ∧ b < wr.heap.size := own_base h.outer b rfl
theorem LS.step {X w6 : World} {g cq gg cap : Nat} {fr : Nat → Value} (h : LS W wr b cp m f a c i) (hX : wr.grownBy X none) (hrow : X.ownsRow wr.heap.size 36 1 (.slice (some ⟨g, 0, none⟩) m cq) m (lst fr m))
    (hown : w6.ownsRow W.heap.size 24 1 (.slice (some ⟨gg, 0, none⟩) (i + 1) cap) (i + 1) (lst (orow a c m) i ++ [.slice (some ⟨g, 0, none⟩) m cq])) (hg : X.grownBy w6 (some b)) (hat : some b = some gg ∨ gg = X.heap.size) :
    LS W w6 gg cap m (fun k => if k = i then fr else f k) (fun k => if k = i then g else a k) (fun k => if k = i then cq else c k) (i + 1) := by
  have hb := h.b_at
  have hbg := own_base hrow g rfl
  have hxs := hX.size
  have hga : ∀ k, k < i → a k ≠ gg := fun k hk => by
    have := h.row_at hk
    have := h.other k hk
    rcases hat with e | e
    · injection e with e; omega
    · omega
  have hgn : g ≠ gg := by
    rcases hat with e | e
    · injection e with e; omega
    · omega
  have e2 : orow (fun k => if k = i then g else a k) (fun k => if k = i then cq else c k) m i = .slice (some ⟨g, 0, none⟩) m cq := by simp [orow]
  have e1 : lst (orow (fun k => if k = i then g else a k) (fun k => if k = i then cq else c k) m) (i + 1) = lst (orow a c m) i ++ [.slice (some ⟨g, 0, none⟩) m cq] := by
    rw [lst_succ, e2]
    congr 1
    exact lst_congr fun j hj => by simp [orow, show ¬ j = i by omega]
  refine ⟨by rw [e1]; exact hown, fun k hk => ?_, fun j k hj hk hne => ?_, fun k hk => ?_, gb_new (h.gb.trans hX) hg (by intro g e; injection e with e; omega)⟩
  · by_cases e : k = i
    · subst e
      rw [e2, if_pos rfl]
      exact own_mono (World.ownsRow.kept hrow hg (.inr (by simp [Value.ownBlock]; omega))) h.gb.size
    · have hk' : k < i := by omega
      have r2 := h.other k hk'
      rw [if_neg e, show orow (fun k => if k = i then g else a k) (fun k => if k = i then cq else c k) m k = orow a c m k by simp [orow, e]]
      exact World.ownsRow.kept (own_kept0 (h.rows k hk') hX) hg (.inr (by simp [orow, Value.ownBlock]; omega))
  · by_cases ej : j = i
    · have hk' : k < i := by omega
      have := h.row_at hk'
      simp only [ej, if_pos, if_neg (show ¬ k = i by omega)]
      omega
    · have hj' : j < i := by omega
      have := h.row_at hj'
      by_cases ek : k = i
      · simp only [ek, if_pos, if_neg ej]
        omega
      · simp only [if_neg ej, if_neg ek]
        exact h.apart j k hj' (by omega) hne
  · by_cases e : k = i
    · simp only [e, if_pos]
      exact hgn
    · simp only [if_neg e]
      exact hga k (by omega)
theorem LS.own (h : LS W wr b cp m f a c i) : OwnN wr W.heap.size (.slice (some ⟨b, 0, none⟩) i cp) i m a c f :=
  ⟨h.outer, h.rows, h.apart, fun k hk => by
    have := h.other k hk
    simp [Value.ownBlock]
    omega⟩
end

end Go.Proofs.Ytabbfpjngbiohaa.nestL
