/- Lists of lists of complex numbers in memory, compared, marked and held in a law. -/
/- Lists of lists that are made row by row. -/
/- Several snapshots, by the program and the model. -/
import Derived.Test.YtpmjheofjmdfeaaRows
import Derived.Test.YtpmjheofjmdfeaaSlc
import Derived.Test.YtpmjheofjmdfeaaFloatAll
import Derived.Test.YtpmjheofjmdfeaaFWalk
import Derived.Test.YtpmjheofjmdfeaaFinWalk
import Derived.Test.YtpmjheofjmdfeaaFlAll
import Derived.Test.YtpmjheofjmdfeaaPhasor
import Derived.Test.YtpmjheofjmdfeaaListC
import Derived.Test.YtpmjheofjmdfeaaListCC
import Derived.Test.YtpmjheofjmdfeaaSmall
import Derived.Test.YtpmjheofjmdfeaaOpens
import Derived.Test.YtpmjheofjmdfeaaPlaceAll
import Derived.Test.YtpmjheofjmdfeaaRoot
import Derived.Test.YtpmjheofjmdfeaaSteerNum
import Derived.Test.YtpmjheofjmdfeaaSineIn
import Derived.Test.YtpmjheofjmdfeaaPolyAll
import Derived.Test.YtpmjheofjmdfeaaGAll
import Derived.Test.YtpmjheofjmdfeaaTwinNum
import Derived.Test.YtpmjheofjmdfeaaPhDef
import Derived.Test.YtpmjheofjmdfeaaPhTabA
import Derived.Test.YtpmjheofjmdfeaaPhTabB
import Derived.Test.YtpmjheofjmdfeaaPhTabC
import Derived.Test.YtpmjheofjmdfeaaPhTabD
import Derived.Test.YtpmjheofjmdfeaaPhAll
import Derived.Test.YtpmjheofjmdfeaaFitAll
import Derived.Test.YtpmjheofjmdfeaaSeedAll
import Derived.Test.YtpmjheofjmdfeaaSrcsAll
import Derived.Test.YtpmjheofjmdfeaaSteering
import Derived.Test.YtpmjheofjmdfeaaShotAll
import Derived.WalkKit
import Derived.ProofKit
import Derived.OpenShut
import Derived.ShutString
import Derived.ChangeOld
import Derived.Below
import Derived.Lib.Hide
import Derived.BigQuiet
import Derived.Deep.QuietTactic
import Derived.WalkLawsBesides
import Derived.Outline
import Derived.Deep.LoopGhost
import Derived.Deep.RegionHeld3
import Derived.Deep.RegionWith
import Derived.Laws.ComplexArith
import Derived.StillTailTactics
import Derived.Deep.RegionLaw
import Derived.Deep.AppendLies
import Derived.Deep.OwnRows
namespace Go.Proofs.Ytpmjheofjmdfeaa.nest
open Go.ChangeShapes Go.WideShapes Go.ChangeAt Go.RowKit
open Go.ChangeMaps (open_string shut_string)
set_option linter.unusedVariables false
open Go Ieee Go.RowKit
open Go.Proofs.Ytpmjheofjmdfeaa.slc Go.Proofs.Ytpmjheofjmdfeaa.floats Go.Proofs.Ytpmjheofjmdfeaa.round Go.Proofs.Ytpmjheofjmdfeaa.values Go.Proofs.Ytpmjheofjmdfeaa.conv Go.Proofs.Ytpmjheofjmdfeaa.fWalk Go.Proofs.Ytpmjheofjmdfeaa.finWalk Go.Proofs.Ytpmjheofjmdfeaa.listC Go.Proofs.Ytpmjheofjmdfeaa.listCC

/-- The row k, in the block a k. -/
def orow (a c : Nat → Nat) (m : Nat) (k : Nat) : Value := .slice (some ⟨a k, 0, none⟩) m (c k)
/-- n rows of m numbers each lie there. -/
def RdN (w : World) (B : Nat) (O : Option Addr) (n m : Nat) (a c : Nat → Nat) (f : Nat → Nat → Value) : Prop :=
  Rd w B O n (orow a c m) ∧ ∀ k, k < n → Rd w B (some ⟨a k, 0, none⟩) m (f k)
theorem RdN.kept0 {w w' : World} {B n m : Nat} {O : Option Addr} {a c : Nat → Nat} {f : Nat → Nat → Value} (h : RdN w B O n m a c f) (hg : w.grownBy w' none) (hB : B ≤ w.heap.size) : RdN w' B O n m a c f :=
  ⟨h.1.kept0 hg hB, fun k hk => (h.2 k hk).kept0 hg hB⟩
theorem RdN.mono {w : World} {B B' n m : Nat} {O : Option Addr} {a c : Nat → Nat} {f : Nat → Nat → Value} (h : RdN w B O n m a c f) (hB : B ≤ B') : RdN w B' O n m a c f :=
  ⟨h.1.mono hB, fun k hk => (h.2 k hk).mono hB⟩
/-- n rows of m numbers each are the call's own, each in a block of its own. -/
structure OwnN (w : World) (base : Nat) (v : Value) (n m : Nat) (a c : Nat → Nat) (f : Nat → Nat → Value) : Prop where
  outer : w.ownsRow base 42 1 v n (lst (orow a c m) n)
  rows : ∀ k, k < n → w.ownsRow base 39 1 (orow a c m k) m (lst (f k) m)
  apart : ∀ j k, j < n → k < n → j ≠ k → a j ≠ a k
  other : ∀ k, k < n → v.ownBlock ≠ some (a k)
theorem OwnN.kept0 {w w' : World} {base n m : Nat} {v : Value} {a c : Nat → Nat} {f : Nat → Nat → Value} (h : OwnN w base v n m a c f) (hg : w.grownBy w' none) : OwnN w' base v n m a c f :=
  ⟨own_kept0 h.outer hg, fun k hk => own_kept0 (h.rows k hk) hg, h.apart, h.other⟩
theorem OwnN.rd {w : World} {base n m c0 : Nat} {O : Option Addr} {a c : Nat → Nat} {f : Nat → Nat → Value} (h : OwnN w base (.slice O n c0) n m a c f) : RdN w w.heap.size O n m a c f :=
  ⟨Rd.of_lst h.outer (Nat.mul_one _).symm, fun k hk => Rd.of_lst (h.rows k hk) (Nat.mul_one _).symm⟩

theorem eqN : True := trivial

/-- Where the marks of the row i begin. -/
def mk (s m : Nat) : Nat → Nat
  | 0 => s
  | i + 1 => mk s m i + m
theorem mk_le (s m n : Nat) : ∀ i, i ≤ n → mk s m i ≤ mk s m n := by
  intro i
  induction n with
  | zero => intro h; obtain rfl : i = 0 := by omega
            exact Nat.le_refl _
  | succ n ih =>
    intro h
    by_cases e : i = n + 1
    · subst e; exact Nat.le_refl _
    · exact Nat.le_trans (ih (by omega)) (Nat.le_add_right _ _)
def mixN (g f : Nat → Nat → Value) (i : Nat) : Nat → Nat → Value := fun k => if k < i then g k else f k
theorem mixN_zero (g f : Nat → Nat → Value) : mixN g f 0 = f := by funext k; simp [mixN]
theorem OwnN.put {w w' : World} {base n m j : Nat} {v : Value} {a c : Nat → Nat} {f : Nat → Nat → Value} {g : Nat → Value} (h : OwnN w base v n m a c f) (hj : j < n)
    (ho : w'.ownsRow base 39 1 (orow a c m j) m (lst g m)) (hg : w.grownBy w' (some (a j))) : OwnN w' base v n m a c (fun k => if k = j then g else f k) := by
  refine ⟨World.ownsRow.kept h.outer hg (.inr (h.other j hj)), fun k hk => ?_, h.apart, h.other⟩
  by_cases e : k = j
  · subst e
    rw [if_pos rfl]
    exact ho
  · rw [if_neg e]
    exact World.ownsRow.kept (h.rows k hk) hg (.inr (by simpa [orow, Value.ownBlock] using h.apart k j hk hj e))
/-- Of the blocks that were there, only rows have changed. -/
structure OnlyRows (n : Nat) (a : Nat → Nat) (w w' : World) : Prop where
  os : w'.os = w.os
  tape : w'.tape = w.tape
  output : w'.output = w.output
  size : w.heap.size ≤ w'.heap.size
  block : ∀ k, k < w.heap.size → (∀ i, i < n → k ≠ a i) → w'.heap[k]? = w.heap[k]?
theorem OnlyRows.refl (n : Nat) (a : Nat → Nat) (w : World) : OnlyRows n a w w := ⟨rfl, rfl, rfl, Nat.le_refl _, fun _ _ _ => rfl⟩
theorem OnlyRows.row {n j : Nat} {a : Nat → Nat} {w wr w' : World} (h : OnlyRows n a w wr) (hj : j < n) (hg : wr.grownBy w' (some (a j))) : OnlyRows n a w w' :=
  ⟨hg.os.trans h.os, hg.tape.trans h.tape, hg.output.trans h.output, Nat.le_trans h.size hg.size, fun k hk hne => (hg.block k (Nat.lt_of_lt_of_le hk h.size) (by intro e; injection e with e; exact hne j hj e)).trans (h.block k hk hne)⟩
theorem OnlyRows.after {n : Nat} {a : Nat → Nat} {w wr w' : World} (h : OnlyRows n a wr w') (hg : w.grownBy wr none) : OnlyRows n a w w' :=
  ⟨h.os.trans hg.os, h.tape.trans hg.tape, h.output.trans hg.output, Nat.le_trans hg.size h.size, fun k hk hne => (h.block k (Nat.lt_of_lt_of_le hk hg.size) hne).trans (hg.block k hk (by simp))⟩
theorem OnlyRows.below {n B : Nat} {a : Nat → Nat} {w w' : World} (h : OnlyRows n a w w') (hB : B ≤ w.heap.size) (hr : ∀ i, i < n → B ≤ a i) : Below B w w' :=
  ⟨h.os, h.tape, h.output, h.size, fun k hk => h.block k (by omega) (fun i hi => by have := hr i hi; omega)⟩
theorem OnlyRows.cell {n : Nat} {a : Nat → Nat} {w w' : World} {p : Addr} {v : Value} (h : OnlyRows n a w w') (hc : w.cell? p = some v) (hne : ∀ i, i < n → p.block ≠ a i) : w'.cell? p = some v :=
  (World.cell?_of_block (h.block p.block (World.block_lt_of_cell? w _ hc) hne)).trans hc
theorem below_row {w w' wr : World} {base g : Nat} (h : Below base w wr) (hg : wr.grownBy w' (some g)) (hb : base ≤ g) (hl : base ≤ wr.heap.size) : Below base w w' :=
  ⟨hg.os.trans h.os, hg.tape.trans h.tape, hg.output.trans h.output, Nat.le_trans h.size hg.size, fun k hk => (hg.block k (by omega) (by intro e; injection e with e; omega)).trans (h.block k hk)⟩
theorem mixN_succ (g f : Nat → Nat → Value) (j : Nat) : (fun k => if k = j then g j else mixN g f j k) = mixN g f (j + 1) := by
  funext k
  unfold mixN
  by_cases e : k = j
  · subst e; simp
  · rw [if_neg e]
    by_cases h : k < j
    · rw [if_pos h, if_pos (by omega)]
    · rw [if_neg h, if_neg (by omega)]
theorem OwnN.mixed {w : World} {base n m : Nat} {v : Value} {a c : Nat → Nat} {g f : Nat → Nat → Value} (h : OwnN w base v n m a c (mixN g f n)) : OwnN w base v n m a c g :=
  ⟨h.outer, fun k hk => by have := h.rows k hk; unfold mixN at this; rwa [if_pos hk] at this, h.apart, h.other⟩
theorem markN : True := trivial
theorem heldN : True := trivial

end Go.Proofs.Ytpmjheofjmdfeaa.nest

namespace Go.Proofs.Ytpmjheofjmdfeaa.nestL
open Go.ChangeShapes Go.WideShapes Go.ChangeAt Go.RowKit
open Go.ChangeMaps (open_string shut_string)
set_option linter.unusedVariables false
open Go Ieee Go.RowKit
open Go.Proofs.Ytpmjheofjmdfeaa.slc Go.Proofs.Ytpmjheofjmdfeaa.listC Go.Proofs.Ytpmjheofjmdfeaa.listCC Go.Proofs.Ytpmjheofjmdfeaa.nest

theorem infoR : (Try.prog.info? 42).map (fun i => (i.zero, i.size, i.bytes)) = some (some (.slice none 0 0), 1, 24) := by kernel_rfl
theorem run_store_slice {P : Program} {w : World} {md : Mode} (a : Addr) (A : Option Addr) (n c : Nat) : (store a (.slice A n c) md).run P w = stored P w a (.slice A n c) md := run_store P w a _ md rfl
theorem one_slice (A : Option Addr) (n c : Nat) : ∀ u ∈ [Value.slice A n c], u.oneCell' = true := by
  intro u hu
  rw [List.mem_singleton] at hu
  subst hu; rfl
theorem lst_succ (f : Nat → Value) (n : Nat) : lst f (n + 1) = lst f n ++ [f n] := by simp [lst, List.range_succ]
def nv : Nat → Value := fun _ => .slice none 0 0
/-- Rows below i are stored, with the contents f. -/
structure LI (W : World) (ob : Nat) (wr : World) (n m : Nat) (f : Nat → Nat → Value) (a c : Nat → Nat) (i : Nat) : Prop where
  outer : wr.ownsRow ob 42 1 (.slice (some ⟨ob, 0, none⟩) n n) n (lst (mix (orow a c m) nv i) n)
  rows : ∀ k, k < i → wr.ownsRow (ob + 1) 39 1 (orow a c m k) m (lst (f k) m)
  apart : ∀ j k, j < i → k < i → j ≠ k → a j ≠ a k
  gb : W.grownBy wr none
  lo : W.heap.size ≤ ob
  sz : ob < wr.heap.size
section
variable {W wr w2 : World} {ob n m i : Nat} {f : Nat → Nat → Value} {a c : Nat → Nat}
theorem LI.row_at (h : LI W ob wr n m f a c i) {k : Nat} (hk : k < i) : ob + 1 ≤ a k ∧ a k < wr.heap.size := own_base (h.rows k hk) (a k) rfl
theorem LI.kept (h : LI W ob wr n m f a c i) (hg : wr.grownBy w2 none) : LI W ob w2 n m f a c i :=
  ⟨own_kept0 h.outer hg, fun k hk => own_kept0 (h.rows k hk) hg, h.apart, h.gb.trans hg, h.lo, Nat.lt_of_lt_of_le h.sz hg.size⟩
theorem LI.lay (h : LI W ob wr n m f a c i) (hi : i < n) {g cp : Nat} {fr : Nat → Value} (hg : wr.grownBy w2 none) (ho : w2.ownsRow wr.heap.size 39 1 (.slice (some ⟨g, 0, none⟩) m cp) m (lst fr m)) :
    LI W ob (w2.setCell ⟨ob, i, none⟩ (.slice (some ⟨g, 0, none⟩) m cp)) n m (fun k => if k = i then fr else f k) (fun k => if k = i then g else a k) (fun k => if k = i then cp else c k) (i + 1) := by
  have h2 := h.kept hg
  have hsz := h.sz
  have hbg := own_base ho g rfl
  have e1 : mix (orow (fun k => if k = i then g else a k) (fun k => if k = i then cp else c k) m) nv i = mix (orow a c m) nv i := by
    funext k
    unfold mix orow
    dsimp only
    by_cases hk : k < i
    · rw [if_pos hk, if_pos hk, if_neg (by omega), if_neg (by omega)]
    · rw [if_neg hk, if_neg hk]
  have e2 : orow (fun k => if k = i then g else a k) (fun k => if k = i then cp else c k) m i = .slice (some ⟨g, 0, none⟩) m cp := by simp [orow]
  obtain ⟨p1, q1⟩ := h2.outer.stored i (.slice (some ⟨g, 0, none⟩) m cp)
  refine ⟨?_, fun k hk => ?_, fun j k hj hk hne => ?_, gb_new h2.gb q1 (by intro g e; injection e with e; have := h.lo; omega), h.lo, Nat.lt_of_lt_of_le h2.sz q1.size⟩
  · rw [← mix_set _ _ _ _ hi, e1, e2]
    exact p1
  · by_cases e : k = i
    · subst e
      rw [e2, if_pos rfl]
      exact own_mono (World.ownsRow.kept ho q1 (.inr (by simp [Value.ownBlock]; omega))) (by omega)
    · have hk' : k < i := by omega
      have := h2.row_at hk'
      rw [if_neg e, show orow (fun k => if k = i then g else a k) (fun k => if k = i then cp else c k) m k = orow a c m k by simp [orow, e]]
      exact World.ownsRow.kept (h2.rows k hk') q1 (.inr (by simp [orow, Value.ownBlock]; omega))
  · by_cases ej : j = i
    · have hk' : k < i := by omega
      have := h.row_at hk'
      simp only [ej, if_pos, if_neg (show ¬ k = i by omega)]
      omega
    · have hj' : j < i := by omega
      have := h.row_at hj'
      by_cases ek : k = i
      · simp only [ek, if_pos, if_neg ej]
        omega
      · simp only [if_neg ej, if_neg ek]
        exact h.apart j k hj' (by omega) hne
theorem LI.own (h : LI W ob wr n m f a c n) : OwnN wr W.heap.size (.slice (some ⟨ob, 0, none⟩) n n) n m a c f :=
  ⟨by rw [← mix_full _ nv]; exact own_mono h.outer h.lo, fun k hk => own_mono (h.rows k hk) (by have := h.lo; omega), h.apart, fun k hk => by
    have := h.row_at hk
    simp [Value.ownBlock]
    omega⟩
end
/-- i rows are appended. -/
structure LS (W wr : World) (b cp m : Nat) (f : Nat → Nat → Value) (a c : Nat → Nat) (i : Nat) : Prop where
  outer : wr.ownsRow W.heap.size 42 1 (.slice (some ⟨b, 0, none⟩) i cp) i (lst (orow a c m) i)
  rows : ∀ k, k < i → wr.ownsRow W.heap.size 39 1 (orow a c m k) m (lst (f k) m)
  apart : ∀ j k, j < i → k < i → j ≠ k → a j ≠ a k
  other : ∀ k, k < i → a k ≠ b
  gb : W.grownBy wr none
section
variable {W wr : World} {b cp m i : Nat} {f : Nat → Nat → Value} {a c : Nat → Nat}
theorem LS.row_at (h : LS W wr b cp m f a c i) {k : Nat} (hk : k < i) : W.heap.size ≤ a k ∧ a k < wr.heap.size := own_base (h.rows k hk) (a k) rfl
theorem LS.b_at (h : LS W wr b cp m f a c i) : W.heap.size ≤ b ∧ b < wr.heap.size := own_base h.outer b rfl
theorem LS.step {X w6 : World} {g cq gg cap : Nat} {fr : Nat → Value} (h : LS W wr b cp m f a c i) (hX : wr.grownBy X none) (hrow : X.ownsRow wr.heap.size 39 1 (.slice (some ⟨g, 0, none⟩) m cq) m (lst fr m))
    (hown : w6.ownsRow W.heap.size 42 1 (.slice (some ⟨gg, 0, none⟩) (i + 1) cap) (i + 1) (lst (orow a c m) i ++ [.slice (some ⟨g, 0, none⟩) m cq])) (hg : X.grownBy w6 (some b)) (hat : some b = some gg ∨ gg = X.heap.size) :
    LS W w6 gg cap m (fun k => if k = i then fr else f k) (fun k => if k = i then g else a k) (fun k => if k = i then cq else c k) (i + 1) := by
  have hb := h.b_at
  have hbg := own_base hrow g rfl
  have hxs := hX.size
  have hga : ∀ k, k < i → a k ≠ gg := fun k hk => by
    have := h.row_at hk
    have := h.other k hk
    rcases hat with e | e
    · injection e with e; omega
    · omega
  have hgn : g ≠ gg := by
    rcases hat with e | e
    · injection e with e; omega
    · omega
  have e2 : orow (fun k => if k = i then g else a k) (fun k => if k = i then cq else c k) m i = .slice (some ⟨g, 0, none⟩) m cq := by simp [orow]
  have e1 : lst (orow (fun k => if k = i then g else a k) (fun k => if k = i then cq else c k) m) (i + 1) = lst (orow a c m) i ++ [.slice (some ⟨g, 0, none⟩) m cq] := by
    rw [lst_succ, e2]
    congr 1
    exact lst_congr fun j hj => by simp [orow, show ¬ j = i by omega]
  refine ⟨by rw [e1]; exact hown, fun k hk => ?_, fun j k hj hk hne => ?_, fun k hk => ?_, gb_new (h.gb.trans hX) hg (by intro g e; injection e with e; omega)⟩
  · by_cases e : k = i
    · subst e
      rw [e2, if_pos rfl]
      exact own_mono (World.ownsRow.kept hrow hg (.inr (by simp [Value.ownBlock]; omega))) h.gb.size
    · have hk' : k < i := by omega
      have r2 := h.other k hk'
      rw [if_neg e, show orow (fun k => if k = i then g else a k) (fun k => if k = i then cq else c k) m k = orow a c m k by simp [orow, e]]
      exact World.ownsRow.kept (own_kept0 (h.rows k hk') hX) hg (.inr (by simp [orow, Value.ownBlock]; omega))
  · by_cases ej : j = i
    · have hk' : k < i := by omega
      have := h.row_at hk'
      simp only [ej, if_pos, if_neg (show ¬ k = i by omega)]
      omega
    · have hj' : j < i := by omega
      have := h.row_at hj'
      by_cases ek : k = i
      · simp only [ek, if_pos, if_neg ej]
        omega
      · simp only [if_neg ej, if_neg ek]
        exact h.apart j k hj' (by omega) hne
  · by_cases e : k = i
    · simp only [e, if_pos]
      exact hgn
    · simp only [if_neg e]
      exact hga k (by omega)
theorem LS.own (h : LS W wr b cp m f a c i) : OwnN wr W.heap.size (.slice (some ⟨b, 0, none⟩) i cp) i m a c f :=
  ⟨h.outer, h.rows, h.apart, fun k hk => by
    have := h.other k hk
    simp [Value.ownBlock]
    omega⟩
end

end Go.Proofs.Ytpmjheofjmdfeaa.nestL

namespace Go.Proofs.Ytpmjheofjmdfeaa.snaps
open Go.ChangeShapes Go.WideShapes Go.ChangeAt Go.RowKit
open Go.ChangeMaps (open_string shut_string)
set_option linter.unusedVariables false
open Go Ieee Go.RowKit
open Go.Proofs.Ytpmjheofjmdfeaa.slc Go.Proofs.Ytpmjheofjmdfeaa.small Go.Proofs.Ytpmjheofjmdfeaa.opens Go.Proofs.Ytpmjheofjmdfeaa.places Go.Proofs.Ytpmjheofjmdfeaa.placeSet Go.Proofs.Ytpmjheofjmdfeaa.listC Go.Proofs.Ytpmjheofjmdfeaa.listCC Go.Proofs.Ytpmjheofjmdfeaa.seeds Go.Proofs.Ytpmjheofjmdfeaa.sources Go.Proofs.Ytpmjheofjmdfeaa.srcs Go.Proofs.Ytpmjheofjmdfeaa.shot Go.Proofs.Ytpmjheofjmdfeaa.shotS Go.Proofs.Ytpmjheofjmdfeaa.snap Go.Proofs.Ytpmjheofjmdfeaa.nest Go.Proofs.Ytpmjheofjmdfeaa.nestL

attribute [local go_sem] run_store_slice

/-- What a function answers. -/
def Sns (F : Nat) (ps : List (Int × Int)) (ss : List (Int × Int × Nat × Int)) (t : Nat) (s f N : Int) (n m : Nat) (ok : Bool) : Prop :=
  ∀ (A A' : Option Addr) (c c' B : Nat) (w : World), ps.length ≤ 9223372036854775807 → ss.length ≤ 9223372036854775807 → Rd w B A (ps.length * 2) (pcell ps) → Rd w B A' (ss.length * 4) (scell ss) → B ≤ w.heap.size →
    Calls Try.prog F #[.slice A ps.length c, .slice A' ss.length c', .float .f32 t, .int .i64 s, .int .i64 f, .int .i64 N] w fun e w' => ∃ O d a c2, ∃ l : Nat → List (Nat × Nat), e = .returned (.tuple #[.slice O n d, .bool ok]) ∧ (∀ k, k < n → Cn (l k) m (so ps ss t s (f + (k : Int)))) ∧
      OwnN w' w.heap.size (.slice O n d) n m a c2 (fun k => ccell (l k)) ∧ w.grownBy w' none
theorem own_nil (w : World) (base : Nat) (hb : base ≤ w.heap.size) (l : Nat → List (Nat × Nat)) : OwnN w base (.slice none 0 0) 0 1 (fun _ => 0) (fun _ => 0) (fun i => ccell (l i)) :=
  ⟨⟨rfl, .inl ⟨rfl, rfl⟩⟩, fun k hk => absurd hk (by omega), fun j k hj => absurd hj (by omega), fun k hk => absurd hk (by omega)⟩
theorem sns_no {F : Nat} (ps : List (Int × Int)) (ss : List (Int × Int × Nat × Int)) (t : Nat) (s f : Int) {args : Array Value} {w : World}
    (h : Calls Try.prog F args w fun e w' => e = .returned (.tuple #[.slice none 0 0, .bool false]) ∧ w.grownBy w' none) :
    Calls Try.prog F args w fun e w' => ∃ O d a c2, ∃ l : Nat → List (Nat × Nat), e = .returned (.tuple #[.slice O 0 d, .bool false]) ∧ (∀ k, k < 0 → Cn (l k) 1 (so ps ss t s (f + (k : Int)))) ∧
      OwnN w' w.heap.size (.slice O 0 d) 0 1 a c2 (fun k => ccell (l k)) ∧ w.grownBy w' none := by
  refine h.mono ?_
  rintro e w' ⟨rfl, hg⟩
  exact ⟨none, 0, _, _, fun _ => [], rfl, fun k hk => absurd hk (Nat.not_lt_zero k), own_nil w' _ hg.size _, hg⟩

theorem own_addr {w : World} {B n : Nat} {t : TypeId} {A : Option Addr} {c : Nat} {cs : List Value} (h : w.ownsRow B t 1 (.slice A n c) n cs) (hn : 1 ≤ n) : ∃ g, A = some ⟨g, 0, none⟩ ∧ B ≤ g := by
  rcases h.2 with q | ⟨g, cc, cells, hv, hge, _⟩
  · simp at q; omega
  · injection hv with e
    exact ⟨g, e, hge⟩
theorem upd_cells (l : Nat → List (Nat × Nat)) (x : List (Nat × Nat)) (i : Nat) : (fun k => if k = i then ccell x else ccell (l k)) = fun k => ccell ((fun k => if k = i then x else l k) k) := by
  funext k
  dsimp only
  split <;> rfl
theorem upd_cn {n i : Nat} {f : Int} {G : Int → Nat → Nat × Nat} {l : Nat → List (Nat × Nat)} {x : List (Nat × Nat)} (h : ∀ k, k < i → Cn (l k) n (G (f + (k : Int)))) (hx : Cn x n (G (f + (i : Int)))) :
    ∀ k, k < i + 1 → Cn ((fun k => if k = i then x else l k) k) n (G (f + (k : Int))) := by
  intro k hk
  dsimp only
  by_cases e : k = i
  · subst e; rw [if_pos rfl]; exact hx
  · rw [if_neg e]; exact h k (by omega)

set_option maxHeartbeats 1600000 in
set_option maxRecDepth 100000 in
theorem snaps_i (ps : List (Int × Int)) (ss : List (Int × Int × Nat × Int)) (t : Nat) (s f : Int) (n : Nat) (hc : caOk ps ss s = true) (f0 : 0 ≤ f) (f1 : f ≤ 1000000) (hn : n ≤ 64) (hf : f + n ≤ 1000001) :
    Sns 27 ps ss t s f n n ps.length true := by
  intro A A' c c' B w hm hm' hr hr' hB
  obtain ⟨i0, hi0, hz0, hz1, hz2⟩ := info_parts infoR
  have HC0 := can_i A A' c c' B ps ss s w hm hm' hr hr' hB
  rw [hc] at HC0
  obtain ⟨v1, v2, s0, s1⟩ := caOk_of hc
  have hp1 := (vp_yes v1).1
  have HC := Lib.hid HC0
  have HSH := Lib.hid (fun (i : Int) (j0 : 0 ≤ i) (j1 : i ≤ 1000000) (w1 : World) (g : w.grownBy w1 none) => shot_i A A' c c' B ps ss t s i w1 v1 v2 s0 s1 j0 j1 (hr.kept0 g hB) (hr'.kept0 g hB) (Nat.le_trans hB g.size))
  have n0 : (0 : Int) ≤ n := by omega
  have n64 : (n : Int) ≤ 64 := by omega
  clear HC0 hr hr' hc v1 v2
  go_enter Try.func27, Try.ntmps27
  go_wp2_with fail
  refine HC.out.mono ?_
  rintro e w1 ⟨rfl, g1⟩
  go_wp2_with fail
  refine (index_yes _ _ f0 f1).mono ?_
  rintro e w' ⟨rfl, rfl⟩
  go_wp2_with fail
  refine (within_yes _ _ _ _ n0 n64).mono ?_
  rintro e w' ⟨rfl, rfl⟩
  go_wp2_with (at_make; refine wpList_make_full _ rfl _ _ _ rfl w1.heap.size 42 i0 (.slice none 0 0) 1 Try.underlying46 hi0 hz0 hz1 _ _ _ _ n rfl rfl rfl rfl (by rw [hz2]; omega) (by unfold maxLen; omega) (Nat.le_refl _) ?_; intro w2 hown hg2)
  have HI0 : LI w w1.heap.size w2 n ps.length (fun k => ccell ((fun _ => ([] : List (Nat × Nat))) k)) (fun _ => 0) (fun _ => 0) 0 := by
    refine ⟨?_, fun k hk => absurd hk (Nat.not_lt_zero k), fun j k hj => absurd hj (Nat.not_lt_zero j), g1.trans hg2, g1.size, ?_⟩
    · rw [Nat.mul_one, show (Value.slice none 0 0).cells = #[Value.slice none 0 0] from rfl, toList_madeCells_one, replicate_lst] at hown
      rw [show mix (orow (fun _ => 0) (fun _ => 0) ps.length) nv 0 = nv by funext k; simp [mix]]
      exact hown
    · exact (own_base hown w1.heap.size rfl).2
  have HII := Lib.hid HI0
  clear HI0 hown
  go_loopw [42] (fun i wr => ∃ k : Nat, k ≤ n ∧ i = .int .i64 k ∧ ∃ (l : Nat → List (Nat × Nat)) (a c : Nat → Nat), LI w w1.heap.size wr n ps.length (fun k => ccell (l k)) a c k ∧ ∀ j, j < k → Cn (l j) ps.length (so ps ss t s (f + (j : Int)))) (fun i _ => n - (intOf i).toNat)
  case atStart => exact ⟨0, Nat.zero_le _, rfl, _, _, _, HII.out, fun j hj => absurd hj (Nat.not_lt_zero j)⟩
  case round =>
    obtain ⟨k, hk, rfl, l, a, c, hI, hl⟩ := hrel
    by_cases hlt : k < n
    · have k0 : (0 : Int) ≤ k := by omega
      have k1 : (k : Int) < n := by omega
      have kn : f + (k : Int) ≤ 1000000 := by omega
      have kp : 0 ≤ f + (k : Int) := by omega
      have HI := Lib.hid hI
      have HL := Lib.hid hl
      have hsh := hI.outer.cellAt k (by omega)
      have hgw := hI.gb
      rw [lst_get _ _ _ hlt] at hsh
      clear hI hl
      go_wp2_with fail
      refine (HSH.out _ kp kn _ hgw).mono ?_
      rintro e w5 ⟨A2, c2, x, rfl, hx, ho, hg5⟩
      have hsh5 := hg5.cell hsh (by simp)
      have hfr5 := (own_kept0 HI.out.outer hg5).frozenAt k
      obtain ⟨g, rfl, hge⟩ := own_addr ho hp1
      have HN0 := HI.out.lay hlt hg5 ho
      rw [upd_cells] at HN0
      have HN := Lib.hid HN0
      have HL2 := Lib.hid (upd_cn (G := so ps ss t s) HL.out hx)
      clear HN0 hx ho hge hsh hgw hg5
      go_wp2_with fail
      go_roundw
      case rel => exact ⟨k + 1, by omega, by go_num, _, _, _, HN.out, HL2.out⟩
      case measure => simp [intOf]; omega
    · obtain rfl : k = n := by omega
      have HN := Lib.hid hI.own
      have HG := Lib.hid hI.gb
      have HL := Lib.hid hl
      clear hI hl
      go_wp2_with fail
      refine bodyPost_ret (v := .tuple #[.slice (some ⟨w1.heap.size, 0, none⟩) k k, .bool true]) (by simp [results, Try.results27]) rfl ?_
      exact ⟨_, _, rfl, a, c, l, HL.out, HN.out, HG.out⟩

theorem max_c : True := trivial

set_option maxHeartbeats 1600000 in
set_option maxRecDepth 100000 in
theorem snaps_s : True := trivial

set_option maxHeartbeats 800000 in
theorem snsno_i (A A' : Option Addr) (c c' B : Nat) (ps : List (Int × Int)) (ss : List (Int × Int × Nat × Int)) (t : Nat) (s f N : Int) (w : World) (hm : ps.length ≤ 9223372036854775807) (hm' : ss.length ≤ 9223372036854775807) (hr : Rd w B A (ps.length * 2) (pcell ps)) (hr' : Rd w B A' (ss.length * 4) (scell ss)) (hB : B ≤ w.heap.size)
    (h : ¬ (caOk ps ss s = true ∧ (0 ≤ f ∧ f ≤ 1000000) ∧ (0 ≤ N ∧ N ≤ 64) ∧ f + N ≤ 1000001)) :
    Calls Try.prog 27 #[.slice A ps.length c, .slice A' ss.length c', .float .f32 t, .int .i64 s, .int .i64 f, .int .i64 N] w fun e w' => e = .returned (.tuple #[.slice none 0 0, .bool false]) ∧ w.grownBy w' none := by
  have HC := Lib.hid (can_i A A' c c' B ps ss s w hm hm' hr hr' hB)
  clear hr hr'
  by_cases hc : caOk ps ss s = true
  case neg =>
    rw [show caOk ps ss s = false by simpa using hc] at HC
    clear h hc
    go_enter Try.func27, Try.ntmps27
    go_wp2_with fail
    refine HC.out.mono ?_
    rintro e w1 ⟨rfl, g1⟩
    go_wp2_with fail
    go_ret2
    exact ⟨rfl, g1⟩
  rw [hc] at HC
  by_cases hf : 0 ≤ f ∧ f ≤ 1000000
  case neg =>
    have HF := Lib.hid (show f < 0 ∨ 1000000 < f by omega)
    clear h hc hf
    go_enter Try.func27, Try.ntmps27
    go_wp2_with fail
    refine HC.out.mono ?_
    rintro e w1 ⟨rfl, g1⟩
    go_wp2_with fail
    refine (index_no _ _ HF.out).mono ?_
    rintro e w' ⟨rfl, rfl⟩
    go_wp2_with fail
    go_ret2
    exact ⟨rfl, g1⟩
  by_cases hN : 0 ≤ N ∧ N ≤ 64
  case neg =>
    have HN := Lib.hid (show N < 0 ∨ 64 < N by omega)
    obtain ⟨f0, f1⟩ := hf
    clear h hc hN
    go_enter Try.func27, Try.ntmps27
    go_wp2_with fail
    refine HC.out.mono ?_
    rintro e w1 ⟨rfl, g1⟩
    go_wp2_with fail
    refine (index_yes _ _ f0 f1).mono ?_
    rintro e w' ⟨rfl, rfl⟩
    go_wp2_with fail
    refine (within_no _ _ _ _ HN.out).mono ?_
    rintro e w' ⟨rfl, rfl⟩
    go_wp2_with fail
    go_ret2
    exact ⟨rfl, g1⟩
  have hg : 1000000 < f + N - 1 := by
    have : ¬ f + N ≤ 1000001 := fun hh => h ⟨hc, hf, hN, hh⟩
    omega
  obtain ⟨f0, f1⟩ := hf
  obtain ⟨n0, n1⟩ := hN
  clear h hc
  all_goals
    go_enter Try.func27, Try.ntmps27
    go_wp2_with fail
    refine HC.out.mono ?_
    rintro e w1 ⟨rfl, g1⟩
    go_wp2_with fail
    refine (index_yes _ _ f0 f1).mono ?_
    rintro e w' ⟨rfl, rfl⟩
    go_wp2_with fail
    refine (within_yes _ _ _ _ n0 n1).mono ?_
    rintro e w' ⟨rfl, rfl⟩
    go_wp2_with fail
    go_ret2
    exact ⟨rfl, g1⟩

set_option maxHeartbeats 800000 in
theorem snsno_s : True := trivial

theorem both : True := trivial

end Go.Proofs.Ytpmjheofjmdfeaa.snaps
