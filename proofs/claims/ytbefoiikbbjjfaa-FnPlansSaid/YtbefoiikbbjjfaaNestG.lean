/- Groups of numbers that grow in memory. -/
import Derived.Test.YtbefoiikbbjjfaaRows
import Derived.Test.YtbefoiikbbjjfaaSlc
import Derived.Test.YtbefoiikbbjjfaaSmall
import Derived.Test.YtbefoiikbbjjfaaOpens
import Derived.Test.YtbefoiikbbjjfaaListI
import Derived.Test.YtbefoiikbbjjfaaNestI
import Derived.Test.YtbefoiikbbjjfaaBeams
import Derived.Test.YtbefoiikbbjjfaaListBeam
import Derived.Test.YtbefoiikbbjjfaaPlanNum
import Derived.Test.YtbefoiikbbjjfaaSwT
import Derived.Test.YtbefoiikbbjjfaaBeamsOk
import Derived.Test.YtbefoiikbbjjfaaPlanAll
import Derived.Test.YtbefoiikbbjjfaaFarF
import Derived.WalkKit
import Derived.ProofKit
import Derived.OpenShut
import Derived.ShutString
import Derived.ChangeOld
import Derived.Below
import Derived.Lib.Hide
import Derived.BigQuiet
import Derived.Deep.QuietTactic
import Derived.WalkLawsBesides
import Derived.Outline
import Derived.Deep.LoopGhost
import Derived.Deep.RegionWith
import Derived.Deep.RegionHeld3
import Derived.Deep.OwnRows
namespace Go.Proofs.Ytbefoiikbbjjfaa.nestG
open Go.ChangeShapes Go.WideShapes Go.ChangeAt Go.RowKit
open Go.ChangeMaps (open_string shut_string)
set_option linter.unusedVariables false
open Go Go.RowKit
open Go.Proofs.Ytbefoiikbbjjfaa.slc Go.Proofs.Ytbefoiikbbjjfaa.small Go.Proofs.Ytbefoiikbbjjfaa.opens Go.Proofs.Ytbefoiikbbjjfaa.listI Go.Proofs.Ytbefoiikbbjjfaa.nestI Go.Proofs.Ytbefoiikbbjjfaa.planNum Go.Proofs.Ytbefoiikbbjjfaa.farF

/-- append, told apart: the walk is not to lay it open. -/
def appS (ats : Array TypeId) (ty : TypeId) (args : Array Value) : Sem Value := Builtin.append_ ats ty args
theorem app_stop (ats : Array TypeId) (ty : TypeId) (args : Array Value) : Builtin.append_ ats ty args = appS ats ty args := rfl
theorem row_slice {W : World} {base : Nat} {e : TypeId} {size : Nat} {v : Value} {k : Nat} {xs : List Value} (h : W.ownsRow base e size v k xs) : ∃ A c, v = .slice A k c := by
  rcases h.2 with ⟨rfl, rfl⟩ | ⟨g, cap, _, rfl, _⟩
  · exact ⟨_, _, rfl⟩
  · exact ⟨_, _, rfl⟩
theorem infoI : (Try.prog.info? 2).map (fun i => (i.zero, i.size, i.bytes)) = some (some (.int .i64 0), 1, 8) := by kernel_rfl
theorem infoR : (Try.prog.info? 46).map (fun i => (i.zero, i.size, i.bytes)) = some (some (.slice none 0 0), 1, 24) := by kernel_rfl

/-- Groups that are the call's own: the list of groups v, the values V of its rows. -/
structure GS (w : World) (base : Nat) (v : Value) (G : List (List Nat)) (V : List Value) : Prop where
  len : V.length = G.length
  outer : w.ownsRow base 46 1 v G.length V
  rows : ∀ i, i < G.length → w.ownsRow base 2 1 (V.getD i undef) (G.getD i []).length (ints (gz (G.getD i [])))
  apart : ∀ i j, i < G.length → j < G.length → i ≠ j → ∀ b, (V.getD i undef).ownBlock = some b → (V.getD j undef).ownBlock ≠ some b
  other : ∀ i, i < G.length → ∀ b, (V.getD i undef).ownBlock = some b → v.ownBlock ≠ some b
theorem GS.kept0 {w w' : World} {base : Nat} {v : Value} {G : List (List Nat)} {V : List Value} (h : GS w base v G V) (hg : w.grownBy w' none) : GS w' base v G V :=
  ⟨h.len, own_kept0 h.outer hg, fun i hi => own_kept0 (h.rows i hi) hg, h.apart, h.other⟩
theorem GS.start {w : World} {base : Nat} {v : Value} (h : w.ownsRow base 46 1 v 0 []) : GS w base v [] [] :=
  ⟨rfl, h, fun i hi => absurd hi (by simp), fun i _ hi => absurd hi (by simp), fun i hi => absurd hi (by simp)⟩
theorem own_ne {w : World} {base : Nat} {e : TypeId} {s n : Nat} {v v' : Value} {xs : List Value} (_ : w.ownsRow base e s v n xs) (hne : ∀ b, v'.ownBlock = some b → v.ownBlock ≠ some b) : v.ownBlock = none ∨ v.ownBlock ≠ v'.ownBlock := by
  cases hv : v.ownBlock with
  | none => exact .inl rfl
  | some b =>
    refine .inr fun e => ?_
    exact hne b e.symm hv
theorem getD_set {α : Type} (l : List α) (i j : Nat) (x d : α) (hi : i < l.length) : (l.set i x).getD j d = if j = i then x else l.getD j d := by
  simp only [List.getD, List.getElem?_set]
  by_cases e : i = j
  · subst e; simp [hi]
  · rw [if_neg e, if_neg (fun h => e h.symm)]
theorem getD_snoc {α : Type} (l : List α) (j : Nat) (x d : α) : (l ++ [x]).getD j d = if j < l.length then l.getD j d else if j = l.length then x else d := by
  simp only [List.getD, List.getElem?_append]
  by_cases h : j < l.length
  · simp [h]
  · simp only [if_neg h]
    by_cases e : j = l.length
    · subst e; simp
    · rw [if_neg e]
      rw [List.getElem?_eq_none (by simp; omega)]
      rfl
theorem gz_snoc (g : List Nat) (x : Nat) : gz (g ++ [x]) = gz g ++ [(x : Int)] := by simp [gz]

set_option maxRecDepth 100000 in
/-- A number more in the row i. -/
theorem GS.grow {w : World} {base gv cap i x : Nat} {G : List (List Nat)} {V : List Value} (h : GS w base (.slice (some ⟨gv, 0, none⟩) G.length cap) G V) (hi : i < G.length) (hb : base ≤ w.heap.size) (hm : (G.getD i []).length < 1000) :
    ∃ A5 c5 A6 c6 w6, V.getD i undef = .slice A5 (G.getD i []).length c5 ∧
      (appS #[46, 46] 46 #[.slice A5 (G.getD i []).length c5, .slice (some ⟨w.heap.size, 0, none⟩) 1 1]).run Try.prog (w.alloc (.cells #[.int .i64 (x : Int)] 2)) = .ok (.slice A6 ((G.getD i []).length + 1) c6) w6 ∧
      w.cell? ⟨gv, i, none⟩ = some (.slice A5 (G.getD i []).length c5) ∧
      w6.cell? ⟨gv, i, none⟩ = some (.slice A5 (G.getD i []).length c5) ∧ w6.frozen? ⟨gv, i, none⟩ = false ∧
      GS (w6.setCell ⟨gv, i, none⟩ (.slice A6 ((G.getD i []).length + 1) c6)) base (.slice (some ⟨gv, 0, none⟩) G.length cap) (G.set i (G.getD i [] ++ [x])) (V.set i (.slice A6 ((G.getD i []).length + 1) c6)) ∧
      (∀ W0 : World, W0.heap.size ≤ base → W0.grownBy w none → W0.grownBy (w6.setCell ⟨gv, i, none⟩ (.slice A6 ((G.getD i []).length + 1) c6)) none) := by
  obtain ⟨i0, hi0, hz0, hz1, hz2⟩ := info_parts infoI
  obtain ⟨A5, c5, hV⟩ := row_slice (h.rows i hi)
  have g0 : w.grownBy (w.alloc (.cells #[.int .i64 (x : Int)] 2)) none := World.grownBy_alloc _ _ _
  have hs0 : (w.alloc (.cells #[.int .i64 (x : Int)] 2)).heap.size = w.heap.size + 1 := by simp
  have hrow := own_kept0 (h.rows i hi) g0
  rw [hV] at hrow
  obtain ⟨v6, w6, hrun, r1, r2, _, r3⟩ := run_append_own_at (P := Try.prog) (w := w.alloc (.cells #[.int .i64 (x : Int)] 2)) base 46 46 2 i0 (.int .i64 0) 1 8 Try.underlying46 hi0 hz0 hz1 hz2 rfl (by decide) _ _ _ hrow ⟨w.heap.size, 0, none⟩ 1 1 [.int .i64 (x : Int)] rfl (cell_one_new _ _ _) (by simp [Value.oneCell']) (by unfold maxLen; omega) (by omega) (by omega)
  obtain ⟨A6, c6, rfl⟩ := row_slice r1
  rw [slc.ints_snoc, ← gz_snoc] at r1
  rw [← hV] at r2 r3
  have hgv := own_base h.outer gv rfl
  have hrb := fun b e => (h.rows i hi).lt b e
  have ho6 := World.ownsRow.kept (own_kept0 h.outer g0) r2 (own_ne h.outer (fun b e => h.other i hi b e))
  have hcell0 := h.outer.cellAt i (by rw [Nat.mul_one]; exact hi)
  have hcell := ho6.cellAt i (by rw [Nat.mul_one]; exact hi)
  have hVi : V[i]? = some (V.getD i undef) := by simp [List.getD, List.getElem?_eq_getElem (show i < V.length by rw [h.len]; exact hi)]
  rw [hVi, hV] at hcell0 hcell
  have hfr := ho6.frozenAt i
  obtain ⟨P, Q⟩ := ho6.stored i (.slice A6 ((G.getD i []).length + 1) c6)
  have hb6 : ∀ b, (Value.slice A6 ((G.getD i []).length + 1) c6).ownBlock = some b → (V.getD i undef).ownBlock = some b ∨ b = w.heap.size + 1 := fun b e => by
    rcases r3 with r3 | r3
    · left; rw [← r3]; exact e
    · right; have h2 := r3.symm.trans e; rw [hs0] at h2; exact (Option.some.inj h2).symm
  refine ⟨A5, c5, A6, c6, w6, hV, hrun, hcell0, hcell, hfr, ⟨by simp [h.len], by simpa using P, ?_, ?_, ?_⟩, ?_⟩
  · intro j hj
    rw [List.length_set] at hj
    rw [getD_set _ _ _ _ _ (by rw [h.len]; exact hi), getD_set _ _ _ _ _ hi]
    by_cases e : j = i
    · rw [if_pos e, if_pos e]
      have := World.ownsRow.kept r1 Q (by
        cases hv : (Value.slice A6 ((G.getD i []).length + 1) c6).ownBlock with
        | none => exact .inl rfl
        | some b =>
          refine .inr fun e2 => ?_
          have e3 : b = gv := Option.some.inj e2
          rcases hb6 b hv with h1 | h1
          · exact h.other i hi b h1 (by rw [e3]; rfl)
          · have := hgv.2
            omega)
      simpa using this
    · rw [if_neg e, if_neg e]
      have k1 := World.ownsRow.kept (own_kept0 (h.rows j hj) g0) r2 (own_ne (h.rows j hj) (fun b e2 => h.apart i j hi hj (fun x => e x.symm) b e2))
      exact World.ownsRow.kept k1 Q (by
        cases hv : (V.getD j undef).ownBlock with
        | none => exact .inl rfl
        | some b =>
          refine .inr fun e2 => ?_
          have e3 : b = gv := Option.some.inj e2
          exact h.other j hj b hv (by rw [e3]; rfl))
  · intro j l hj hl hjl b
    rw [List.length_set] at hj hl
    rw [getD_set _ _ _ _ _ (by rw [h.len]; exact hi), getD_set _ _ _ _ _ (by rw [h.len]; exact hi)]
    by_cases e : j = i
    · subst e
      rw [if_pos rfl, if_neg (fun x => hjl x.symm)]
      intro h1 h2
      rcases hb6 b h1 with h3 | h3
      · exact h.apart j l hj hl hjl b h3 h2
      · have := (h.rows l hl).lt b h2
        omega
    · rw [if_neg e]
      by_cases e2 : l = i
      · subst e2
        rw [if_pos rfl]
        intro h1 h2
        rcases hb6 b h2 with h3 | h3
        · exact h.apart l j hl hj (fun x => hjl x.symm) b h3 h1
        · have := (h.rows j hj).lt b h1
          omega
      · rw [if_neg e2]
        exact h.apart j l hj hl hjl b
  · intro j hj b
    rw [List.length_set] at hj
    rw [getD_set _ _ _ _ _ (by rw [h.len]; exact hi)]
    by_cases e : j = i
    · rw [if_pos e]
      intro h1
      rcases hb6 b h1 with h3 | h3
      · exact h.other i hi b h3
      · intro h2
        have e3 : gv = b := Option.some.inj h2
        have := hgv.2
        omega
    · rw [if_neg e]
      exact h.other j hj b
  · intro W0 hW0 hg
    refine gb_new (gb_new (hg.trans g0) r2 (fun g e => Nat.le_trans hW0 (hrb g e).1)) Q (fun g e => ?_)
    have e3 : gv = g := Option.some.inj e
    have := hgv.1
    omega


end Go.Proofs.Ytbefoiikbbjjfaa.nestG
