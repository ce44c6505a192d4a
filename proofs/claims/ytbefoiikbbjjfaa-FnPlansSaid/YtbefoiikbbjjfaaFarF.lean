/- Groups of beams, plainly; the first group that fits, by the program. -/
import Derived.Test.YtbefoiikbbjjfaaRows
import Derived.Test.YtbefoiikbbjjfaaSlc
import Derived.Test.YtbefoiikbbjjfaaSmall
import Derived.Test.YtbefoiikbbjjfaaOpens
import Derived.Test.YtbefoiikbbjjfaaListI
import Derived.Test.YtbefoiikbbjjfaaBeams
import Derived.Test.YtbefoiikbbjjfaaListBeam
import Derived.Test.YtbefoiikbbjjfaaPlanNum
import Derived.Test.YtbefoiikbbjjfaaSwT
import Derived.Test.YtbefoiikbbjjfaaBeamsOk
import Derived.Test.YtbefoiikbbjjfaaPlanAll
import Derived.WalkKit
import Derived.ProofKit
import Derived.OpenShut
import Derived.ShutString
import Derived.ChangeOld
import Derived.Below
import Derived.Lib.Hide
import Derived.BigQuiet
import Derived.Deep.QuietTactic
import Derived.WalkLawsBesides
import Derived.Outline
import Derived.Deep.LoopGhost
import Derived.Deep.RegionWith
import Derived.Deep.RegionHeld3
namespace Go.Proofs.Ytbefoiikbbjjfaa.farF
open Go.ChangeShapes Go.WideShapes Go.ChangeAt Go.RowKit
open Go.ChangeMaps (open_string shut_string)
set_option linter.unusedVariables false
open Go Go.RowKit
open Go.Proofs.Ytbefoiikbbjjfaa.slc Go.Proofs.Ytbefoiikbbjjfaa.small Go.Proofs.Ytbefoiikbbjjfaa.opens Go.Proofs.Ytbefoiikbbjjfaa.beams Go.Proofs.Ytbefoiikbbjjfaa.listBeam Go.Proofs.Ytbefoiikbbjjfaa.planNum Go.Proofs.Ytbefoiikbbjjfaa.swT Go.Proofs.Ytbefoiikbbjjfaa.beamsOk Go.Proofs.Ytbefoiikbbjjfaa.planDue

def gz (g : List Nat) : List Int := g.map fun (x : Nat) => (x : Int)
theorem gz_len (g : List Nat) : (gz g).length = g.length := by simp [gz]
theorem gz_at (g : List Nat) {i : Nat} (h : i < g.length) : (ints (gz g)).getD i undef = .int .i64 (g[i] : Nat) := by
  rw [ints_getD _ _ (by rw [gz_len]; exact h)]
  simp [gz]
/-- Two beams are nearer than apart. -/
def nearB (bs : List Bm) (ap : Int) (x k : Nat) : Bool := decide (df (bg bs x).1 (bg bs x).2.1 (bg bs k).1 (bg bs k).2.1 < ap)
/-- How many of a group's first ones are not near. -/
def fitB (bs : List Bm) (ap : Int) (g : List Nat) (k : Nat) : Bool := g.all fun x => !nearB bs ap x k
def grOk (bs : List Bm) (g : List Nat) : Prop := ∀ i (h : i < g.length), g[i] < bs.length
/-- The first index of a list at which a test holds. -/
def fst {α : Type} (p : α → Bool) (l : List α) : Nat := l.findIdx p

/-- What the closure on two beams holds. -/
structure Cap (w : World) (A : Option Addr) (n c : Nat) (p1 p2 p3 : Nat) (bs : List Bm) (k : Nat) (ap : Int) : Prop where
  bm : w.cell? ⟨p1, 0, none⟩ = some (.slice A n c)
  u : w.cell? ⟨p2, 0, none⟩ = some (.int .i64 (bg bs k).1)
  v : w.cell? ⟨p2, 1, none⟩ = some (.int .i64 (bg bs k).2.1)
  ap : w.cell? ⟨p3, 0, none⟩ = some (.int .i64 ap)
theorem Cap.kept {w w' : World} {A : Option Addr} {n c p1 p2 p3 : Nat} {bs : List Bm} {k : Nat} {ap : Int} (h : Cap w A n c p1 p2 p3 bs k ap) (hg : w.grownBy w' none) : Cap w' A n c p1 p2 p3 bs k ap :=
  ⟨hg.cell h.bm (by simp), hg.cell h.u (by simp), hg.cell h.v (by simp), hg.cell h.ap (by simp)⟩

set_option maxHeartbeats 1600000 in
set_option maxRecDepth 100000 in
theorem near_c : True := trivial

/-- The first one of a group that is near. -/
theorem find_step {α : Type} (p : α → Bool) (l : List α) (k : Nat) (hk : k < l.length) (h : ∀ i (hi : i < k), p (l[i]'(by omega)) = false) : (p l[k] = true → l.findIdx p = k) := fun hp => by
  rw [List.findIdx_eq hk]
  exact ⟨hp, fun j hj => h j hj⟩
theorem find_none {α : Type} (p : α → Bool) (l : List α) (h : ∀ i (hi : i < l.length), p l[i] = false) : l.findIdx p = l.length := by
  rw [List.findIdx_eq_length]
  intro x hx
  obtain ⟨i, hi, rfl⟩ := List.getElem_of_mem hx
  exact h i hi
def fx (b : Bool) (i : Nat) : Int := if b = true then (i : Int) else -1

set_option maxHeartbeats 1600000 in
set_option maxRecDepth 100000 in
theorem index_c : True := trivial

set_option maxHeartbeats 1600000 in
set_option maxRecDepth 100000 in
theorem contains_c : True := trivial

set_option maxHeartbeats 1600000 in
set_option maxRecDepth 100000 in
theorem fit_c : True := trivial

/-- Groups lie in memory. -/
structure RdG (w : World) (B : Nat) (O : Option Addr) (G : List (List Nat)) (AA : Nat → Option Addr) (cc : Nat → Nat) : Prop where
  outer : Rd w B O G.length (fun i => .slice (AA i) (G.getD i []).length (cc i))
  rows : ∀ i, i < G.length → Rd w B (AA i) (G.getD i []).length (fun j => (ints (gz (G.getD i []))).getD j undef)
/-- The index of the first group that fits, or -1. -/
def ix (bs : List Bm) (ap : Int) (G : List (List Nat)) (k : Nat) : Nat := G.findIdx fun g => fitB bs ap g k

def ixI (bs : List Bm) (ap : Int) (G : List (List Nat)) (k : Nat) : Int := if ix bs ap G k < G.length then ((ix bs ap G k : Nat) : Int) else -1

set_option maxHeartbeats 1600000 in
set_option maxRecDepth 100000 in
theorem groups_c : True := trivial

end Go.Proofs.Ytbefoiikbbjjfaa.farF
