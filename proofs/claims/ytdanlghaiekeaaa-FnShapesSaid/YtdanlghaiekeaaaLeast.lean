/- The least square of a distance. -/
import Derived.Test.YtdanlghaiekeaaaRows
import Derived.Test.YtdanlghaiekeaaaSlc
import Derived.Test.YtdanlghaiekeaaaSmall
import Derived.Test.YtdanlghaiekeaaaOpens
import Derived.Test.YtdanlghaiekeaaaPlaces
import Derived.Test.YtdanlghaiekeaaaPlaceSet
import Derived.Test.YtdanlghaiekeaaaListP
import Derived.WalkKit
import Derived.ProofKit
import Derived.OpenShut
import Derived.ShutString
import Derived.ChangeOld
import Derived.Below
import Derived.Lib.Hide
import Derived.BigQuiet
import Derived.Deep.QuietTactic
import Derived.WalkLawsBesides
import Derived.Outline
import Derived.Deep.QuietTactic
import Derived.BigQuiet
import Derived.Deep.LoopGhost
import Derived.StillTailTactics
namespace Go.Proofs.Ytdanlghaiekeaaa.least
open Go.ChangeShapes Go.WideShapes Go.ChangeAt Go.RowKit
open Go.ChangeMaps (open_string shut_string)
set_option linter.unusedVariables false
open Go Go.RowKit
open Go.Proofs.Ytdanlghaiekeaaa.slc Go.Proofs.Ytdanlghaiekeaaa.small Go.Proofs.Ytdanlghaiekeaaa.opens Go.Proofs.Ytdanlghaiekeaaa.places Go.Proofs.Ytdanlghaiekeaaa.placeSet Go.Proofs.Ytdanlghaiekeaaa.listP

/-- The square of the distance of two places of a list. -/
def sq (p q : Int × Int) : Int := (p.1 - q.1) * (p.1 - q.1) + (p.2 - q.2) * (p.2 - q.2)
def sqa (ps : List (Int × Int)) (a b : Nat) : Int := sq (ps.getD a (0, 0)) (ps.getD b (0, 0))
theorem sqa_at (ps : List (Int × Int)) (a b : Nat) (ha : a < ps.length) (hb : b < ps.length) : sqa ps a b = sq ps[a] ps[b] := by
  simp [sqa, List.getD, ha, hb]
theorem sq_comm (p q : Int × Int) : sq p q = sq q p := by
  unfold sq
  have e1 : (q.1 - p.1) = -(p.1 - q.1) := by omega
  have e2 : (q.2 - p.2) = -(p.2 - q.2) := by omega
  rw [e1, e2, Int.neg_mul_neg, Int.neg_mul_neg]
theorem sqr_bd (x : Int) (h1 : -8192 ≤ x) (h2 : x ≤ 8192) : 0 ≤ x * x ∧ x * x ≤ 67108864 := by
  have a : x * x = (x.natAbs : Int) * x.natAbs := by rw [Int.natAbs_mul_self']
  have c : x.natAbs * x.natAbs ≤ 8192 * 8192 := Nat.mul_le_mul (by omega) (by omega)
  have d : ((x.natAbs * x.natAbs : Nat) : Int) = (x.natAbs : Int) * x.natAbs := by simp
  omega
/-- The squares of all pairs before i, and of i with those before k. -/
def pr (ps : List (Int × Int)) (i k : Nat) : List Int :=
  (List.range i).flatMap (fun a : Nat => (List.range a).map fun b : Nat => sqa ps a b) ++ (List.range k).map fun b : Nat => sqa ps i b
theorem pr_next (ps : List (Int × Int)) (i k : Nat) : pr ps i (k + 1) = pr ps i k ++ [sqa ps i k] := by simp [pr, List.range_succ]
theorem pr_row (ps : List (Int × Int)) (i : Nat) : pr ps i i = pr ps (i + 1) 0 := by simp [pr, List.range_succ]
theorem pr_head (ps : List (Int × Int)) (n : Nat) : ∃ t, pr ps (n + 2) 0 = sqa ps 1 0 :: t := by
  induction n with
  | zero => exact ⟨[], rfl⟩
  | succ n ih =>
    obtain ⟨t, ht⟩ := ih
    have : pr ps (n + 1 + 2) 0 = pr ps (n + 2) 0 ++ (List.range (n + 2)).map fun b : Nat => sqa ps (n + 2) b := by simp [pr, List.range_succ]
    exact ⟨t ++ (List.range (n + 2)).map (fun b : Nat => sqa ps (n + 2) b), by rw [this, ht]; rfl⟩
def stp (a x : Int) : Int := if a < 0 ∨ x < a then x else a
def lsp (l : List Int) : Int := l.foldl stp (-1)
def lim (a : Int) (l : List Int) : Int := l.foldl min a
theorem lsp_snoc (l : List Int) (x : Int) : lsp (l ++ [x]) = stp (lsp l) x := by simp [lsp, List.foldl_append]
theorem lim_snoc (a : Int) (l : List Int) (x : Int) : lim a (l ++ [x]) = min (lim a l) x := by simp [lim, List.foldl_append]
theorem stp_min (l : List Int) : ∀ a : Int, 0 ≤ a → (∀ x ∈ l, 0 ≤ x) → l.foldl stp a = l.foldl min a := by
  induction l with
  | nil => intro a _ _; rfl
  | cons x t ih =>
    intro a ha h
    have hx : 0 ≤ x := h x (by simp)
    have e : stp a x = min a x := by unfold stp; split <;> omega
    simp only [List.foldl_cons, e]
    exact ih _ (by omega) fun y hy => h y (by simp [hy])
theorem same_least (a : Int) (t : List Int) (ha : 0 ≤ a) (h : ∀ x ∈ t, 0 ≤ x) : lsp (a :: t) = lim a (a :: t) := by
  unfold lsp lim
  simp only [List.foldl_cons]
  have e : stp (-1) a = a := by simp [stp]
  rw [e, Int.min_self]
  exact stp_min t a ha h
theorem lsp_bd (l : List Int) (h : ∀ x ∈ l, 0 ≤ x ∧ x ≤ 134217728) : -1 ≤ lsp l ∧ lsp l ≤ 134217728 := by
  have key : ∀ (l : List Int) (a : Int), (-1 ≤ a ∧ a ≤ 134217728) → (∀ x ∈ l, 0 ≤ x ∧ x ≤ 134217728) → -1 ≤ l.foldl stp a ∧ l.foldl stp a ≤ 134217728 := by
    intro l
    induction l with
    | nil => intro a ha _; exact ha
    | cons x t ih =>
      intro a ha h
      have hx := h x (by simp)
      exact ih _ (by unfold stp; split <;> omega) fun y hy => h y (by simp [hy])
  exact key l (-1) (by omega) h
theorem ok_at {ps : List (Int × Int)} (h : vp ps = true) (k : Nat) (hk : k < ps.length) : -4096 ≤ ps[k].1 ∧ ps[k].1 ≤ 4096 ∧ -4096 ≤ ps[k].2 ∧ ps[k].2 ≤ 4096 :=
  ok_yes ((vp_yes h).2.2.1 _ (List.getElem_mem hk))
theorem sqa_bd {ps : List (Int × Int)} (h : vp ps = true) (a b : Nat) (ha : a < ps.length) (hb : b < ps.length) : 0 ≤ sqa ps a b ∧ sqa ps a b ≤ 134217728 := by
  rw [sqa_at ps a b ha hb]
  obtain ⟨a1, a2, a3, a4⟩ := ok_at h a ha
  obtain ⟨b1, b2, b3, b4⟩ := ok_at h b hb
  have x1 := sqr_bd (ps[a].1 - ps[b].1) (by omega) (by omega)
  have x2 := sqr_bd (ps[a].2 - ps[b].2) (by omega) (by omega)
  unfold sq
  omega
theorem pr_bd {ps : List (Int × Int)} (h : vp ps = true) (i k : Nat) (hi : i ≤ ps.length) (hk : k ≤ i) (hki : 0 < k → i < ps.length) : ∀ x ∈ pr ps i k, 0 ≤ x ∧ x ≤ 134217728 := by
  intro x hx
  unfold pr at hx
  rcases List.mem_append.1 hx with hx | hx
  · obtain ⟨a, ha, hx⟩ := List.mem_flatMap.1 hx
    obtain ⟨b, hb, rfl⟩ := List.mem_map.1 hx
    have := List.mem_range.1 ha
    have := List.mem_range.1 hb
    exact sqa_bd h a b (by omega) (by omega)
  · obtain ⟨b, hb, rfl⟩ := List.mem_map.1 hx
    have := List.mem_range.1 hb
    have := hki (by omega)
    exact sqa_bd h i b (by omega) (by omega)

/-- What is returned. -/
def leR (ps : List (Int × Int)) : Int × Bool := if vp ps = true ∧ 2 ≤ ps.length then (lsp (pr ps ps.length 0), true) else (0, false)

set_option maxHeartbeats 1000000 in
set_option maxRecDepth 100000 in
theorem le_spec : True := trivial

end Go.Proofs.Ytdanlghaiekeaaa.least
