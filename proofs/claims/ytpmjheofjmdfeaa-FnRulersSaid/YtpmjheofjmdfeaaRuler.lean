/- Whether marks are a ruler, by both. -/
import Derived.Test.YtpmjheofjmdfeaaRows
import Derived.Test.YtpmjheofjmdfeaaSlc
import Derived.Test.YtpmjheofjmdfeaaSmall
import Derived.Test.YtpmjheofjmdfeaaListI
import Derived.Test.YtpmjheofjmdfeaaMarks
import Derived.Test.YtpmjheofjmdfeaaPut
import Derived.Test.YtpmjheofjmdfeaaDiff
import Derived.Test.YtpmjheofjmdfeaaHoles
import Derived.Test.YtpmjheofjmdfeaaISet
import Derived.Test.YtpmjheofjmdfeaaISize
import Derived.Test.YtpmjheofjmdfeaaHoles2
import Derived.WalkKit
import Derived.ProofKit
import Derived.OpenShut
import Derived.ShutString
import Derived.ChangeOld
import Derived.Below
import Derived.Lib.Hide
import Derived.BigQuiet
import Derived.Deep.QuietTactic
import Derived.WalkLawsBesides
import Derived.Outline
import Derived.Deep.QuietTactic
import Derived.BigQuiet
import Derived.Deep.LoopGhost
import Derived.Maps.OwnOps
import Derived.Maps.OwnSet
import Derived.Maps.Views
import Derived.MapViews
namespace Go.Proofs.Ytpmjheofjmdfeaa.ruler
open Go.ChangeShapes Go.WideShapes Go.ChangeAt Go.RowKit
open Go.ChangeMaps (open_string shut_string)
set_option linter.unusedVariables false
open Go Go.RowKit Go.Maps
open Go.Proofs.Ytpmjheofjmdfeaa.slc Go.Proofs.Ytpmjheofjmdfeaa.small Go.Proofs.Ytpmjheofjmdfeaa.listI Go.Proofs.Ytpmjheofjmdfeaa.marks Go.Proofs.Ytpmjheofjmdfeaa.put Go.Proofs.Ytpmjheofjmdfeaa.diff Go.Proofs.Ytpmjheofjmdfeaa.holes Go.Proofs.Ytpmjheofjmdfeaa.iSet Go.Proofs.Ytpmjheofjmdfeaa.iSize Go.Proofs.Ytpmjheofjmdfeaa.holes2

/-- The number of pairs. -/
def pairs (n : Nat) : Int := ((n : Int) * ((n : Int) - 1)).tdiv 2
theorem prod_bd (n : Nat) (h1 : 1 ≤ n) (h2 : n ≤ 16) : 0 ≤ (n : Int) * ((n : Int) - 1) ∧ (n : Int) * ((n : Int) - 1) ≤ 240 :=
  ⟨Int.mul_nonneg (by omega) (by omega), Int.le_trans (Int.mul_le_mul (show (n : Int) ≤ 16 by omega) (show (n : Int) - 1 ≤ 15 by omega) (by omega) (by omega)) (by omega)⟩
theorem pairs_bd (n : Nat) (h1 : 1 ≤ n) (h2 : n ≤ 16) : 0 ≤ pairs n ∧ pairs n ≤ 120 := by
  obtain ⟨a, b⟩ := prod_bd n h1 h2
  unfold pairs
  rw [Int.tdiv_eq_ediv_of_nonneg a]
  omega
/-- No difference comes twice. -/
def rB (xs : List Int) : Bool := decide (((D xs).length : Int) = pairs xs.length + 1)

set_option maxHeartbeats 400000 in
set_option maxRecDepth 100000 in
theorem pairs_c (n : Nat) (w : World) (h1 : 1 ≤ n) (h2 : n ≤ 16) :
    Calls Try.prog 116 #[.int .i64 n] w fun e w' => e = .returned (.int .i64 (pairs n)) ∧ w = w' := by
  obtain ⟨a, b⟩ := prod_bd n h1 h2
  obtain ⟨p0, p1⟩ := pairs_bd n h1 h2
  have z1 : (1 : Int) ≤ n := by omega
  have z2 : (n : Int) ≤ 16 := by omega
  unfold pairs at p0 p1
  go_enter Try.func116, Try.ntmps116
  go_wp2_with fail
  go_ret
  exact ⟨rfl, rfl⟩

set_option maxHeartbeats 400000 in
set_option maxRecDepth 100000 in
theorem ruler_spec : True := trivial

/-- The answer. -/
def ruB (xs : List Int) : Bool := mB xs && rB xs
theorem ru_yes {xs : List Int} (h : mB xs = true) : ruB xs = rB xs := by unfold ruB; rw [h]; rfl
theorem ru_no {xs : List Int} (h : mB xs = false) : ruB xs = false := by unfold ruB; rw [h]; rfl
/-- A function answers so. -/
def Rus (F : Nat) (xs : List Int) (ok : Bool) : Prop :=
  ∀ (A : Option Addr) (c B : Nat) (w : World), xs.length ≤ c ∧ c ≤ maxLen → Rd w B A xs.length (fun j => (ints xs).getD j undef) → B ≤ w.heap.size →
    Calls Try.prog F #[.slice A xs.length c] w fun e w' => e = .returned (.bool ok) ∧ w.grownBy w' none

set_option maxHeartbeats 400000 in
set_option maxRecDepth 100000 in
theorem ruspec_c : True := trivial

set_option maxHeartbeats 400000 in
set_option maxRecDepth 100000 in
theorem ruimpl_c (xs : List Int) : Rus 20 xs (ruB xs) := by
  intro A c B w hcc hr hB
  obtain ⟨hc, hcm⟩ := hcc
  unfold maxLen at hcm
  by_cases hv : mB xs = true
  · have h1 := (mB_yes hv).1
    have h2 := (mB_yes hv).2.1
    obtain ⟨p0, p1⟩ := pairs_bd xs.length h1 h2
    have hy := ru_yes hv
    have HY := Lib.hid hy
    have HV := Lib.hid hv
    clear hy hv
    go_enter Try.func20, Try.ntmps20
    go_wp2_with fail
    refine (are_impl _ _ _ _ _ (by omega) hr).mono ?_
    rintro e w1 ⟨rfl, rfl⟩
    rw [HV.out]
    go_wp2_with fail
    refine (set_impl _ _ _ _ _ HV.out hc hcm hr hB).mono ?_
    rintro e w2 ⟨b, n, rfl, hset, hn, hg2⟩
    obtain ⟨M, ho, hsz⟩ := isize hset
    have hbl : (dl xs xs.length 0).length ≤ 272 := hsz ▸ Nat.le_trans (World.ownsMap.size_le ho) hn
    have hln := ho.len Try.underlying134 3
    rw [hsz] at hln
    clear hset ho hsz
    go_wp2_with (go_at_call 116; refine (pairs_c _ _ h1 h2).mono ?_; rintro e w' ⟨rfl, rfl⟩)
    go_ret
    refine ⟨?_, hg2⟩
    rw [HY.out]
    refine ret_bool ?_
    unfold rB D
    first | rfl | (rw [Bool.eq_iff_iff]; simp)
  · have hv' : mB xs = false := by simpa using hv
    clear hv
    have hy := ru_no hv'
    have HY := Lib.hid hy
    have HV := Lib.hid hv'
    clear hy hv'
    go_enter Try.func20, Try.ntmps20
    go_wp2_with fail
    refine (are_impl _ _ _ _ _ (by omega) hr).mono ?_
    rintro e w1 ⟨rfl, rfl⟩
    rw [HV.out]
    go_wp2_with fail
    go_ret
    exact ⟨by rw [HY.out]; rfl, World.grownBy.refl _ _⟩

end Go.Proofs.Ytpmjheofjmdfeaa.ruler
