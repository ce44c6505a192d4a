/- The phases of a wave: all answers. -/
import Derived.Test.YtkjmlpdbnnmlhabRows
import Derived.Test.YtkjmlpdbnnmlhabSlc
import Derived.Test.YtkjmlpdbnnmlhabSmall
import Derived.Test.YtkjmlpdbnnmlhabOpens
import Derived.Test.YtkjmlpdbnnmlhabPlaces
import Derived.Test.YtkjmlpdbnnmlhabPlaceSet
import Derived.Test.YtkjmlpdbnnmlhabSteps
import Derived.Test.YtkjmlpdbnnmlhabListC
import Derived.Test.YtkjmlpdbnnmlhabFloats
import Derived.Test.YtkjmlpdbnnmlhabRound
import Derived.Test.YtkjmlpdbnnmlhabValues
import Derived.Test.YtkjmlpdbnnmlhabConv
import Derived.Test.YtkjmlpdbnnmlhabFWalk
import Derived.Test.YtkjmlpdbnnmlhabFinWalk
import Derived.Test.YtkjmlpdbnnmlhabFloat2
import Derived.Test.YtkjmlpdbnnmlhabFloat3
import Derived.Test.YtkjmlpdbnnmlhabPhase
import Derived.Test.YtkjmlpdbnnmlhabSine
import Derived.Test.YtkjmlpdbnnmlhabPhasor
import Derived.Test.YtkjmlpdbnnmlhabSteerNum
import Derived.Test.YtkjmlpdbnnmlhabSteering
import Derived.WalkKit
import Derived.ProofKit
import Derived.OpenShut
import Derived.ShutString
import Derived.ChangeOld
import Derived.Below
import Derived.Lib.Hide
import Derived.BigQuiet
import Derived.Deep.QuietTactic
import Derived.WalkLawsBesides
import Derived.Outline
import Derived.Deep.LoopGhost
namespace Go.Proofs.Ytkjmlpdbnnmlhab.steering2
open Go.ChangeShapes Go.WideShapes Go.ChangeAt Go.RowKit
open Go.ChangeMaps (open_string shut_string)
set_option linter.unusedVariables false
open Go Ieee Go.RowKit
open Go.Proofs.Ytkjmlpdbnnmlhab.slc Go.Proofs.Ytkjmlpdbnnmlhab.small Go.Proofs.Ytkjmlpdbnnmlhab.opens Go.Proofs.Ytkjmlpdbnnmlhab.places Go.Proofs.Ytkjmlpdbnnmlhab.placeSet Go.Proofs.Ytkjmlpdbnnmlhab.listC Go.Proofs.Ytkjmlpdbnnmlhab.steerNum Go.Proofs.Ytkjmlpdbnnmlhab.steering

/-- What is returned. -/
def steR (ps : List (Int × Int)) (u v : Int) : List (Nat × Nat) × Bool := if vp ps = true ∧ dirB u v = true then (stl ps u v, true) else ([], false)
theorem steR_len (ps : List (Int × Int)) (u v : Int) : (steR ps u v).1.length ≤ 16 := by
  unfold steR; split
  · rename_i h
    rw [stl_len]
    exact (vp_yes h.1).2.1
  · exact Nat.zero_le _
theorem steR_fin (ps : List (Int × Int)) (u v : Int) : FinL (steR ps u v).1 := by
  unfold steR; split
  · rename_i h
    intro p hp
    obtain ⟨q, hq, rfl⟩ := List.mem_map.1 hp
    exact phz_fin _ (steps_bd ((vp_yes h.1).2.2.1 q hq) h.2).1
  · intro p hp; cases hp
/-- What a function answers. -/
def Sted (F : Nat) (ps : List (Int × Int)) (u v : Int) (l : List (Nat × Nat)) (ok : Bool) : Prop :=
  ∀ (A : Option Addr) (c B : Nat) (w : World), ps.length ≤ 9223372036854775807 → Rd w B A (ps.length * 2) (pcell ps) → B ≤ w.heap.size → Calls Try.prog F #[.slice A ps.length c, .agg #[.int .i64 u, .int .i64 v]] w fun e w' => ∃ A' c', e = .returned (.tuple #[.slice A' l.length c', .bool ok]) ∧
      w'.ownsRow w.heap.size 71 1 (.slice A' l.length c') l.length (lst (ccell l) l.length) ∧ w.grownBy w' none

set_option maxHeartbeats 400000 in
theorem spec_c : True := trivial

set_option maxHeartbeats 400000 in
set_option maxRecDepth 100000 in
theorem impl_c (ps : List (Int × Int)) (u v : Int) : Sted 39 ps u v (steR ps u v).1 (steR ps u v).2 := by
  intro A c B w hm hr hB
  have hbox := World.grownBy_alloc w (.cells #[.int .i64 u, .int .i64 v] 41) none
  have hr1 := hr.kept0 hbox hB
  have HC0 := is_impl A c B ps (w.alloc (.cells #[.int .i64 u, .int .i64 v] 41)) hm hr1 (by simp; omega)
  unfold steR
  cases hv : vp ps
  · rw [if_neg (by simp)]
    rw [hv] at HC0
    have HC := Lib.hid HC0
    clear hv HC0
    go_enter Try.func39, Try.ntmps39
    go_wp2_with fail
    refine HC.out.mono ?_
    rintro e w1 ⟨rfl, hg1⟩
    go_wp2_with fail
    go_ret2
    exact ⟨none, 0, rfl, World.ownsRow_nil _ _ _ _, hbox.trans hg1⟩
  · rw [hv] at HC0
    have HC := Lib.hid HC0
    have HV := Lib.hid hv
    clear HC0
    cases hd : dirB u v
    · rw [if_neg (by simp)]
      have HD0 := fun w => dir_impl u v w
      rw [hd] at HD0
      have HD := Lib.hid HD0
      clear hd HD0 hv
      go_enter Try.func39, Try.ntmps39
      go_wp2_with fail
      refine HC.out.mono ?_
      rintro e w1 ⟨rfl, hg1⟩
      have hd0 := (boxed2 hg1).1
      have hd1 := (boxed2 hg1).2
      go_wp2_with fail
      refine (HD.out _).mono ?_
      rintro e w2 ⟨rfl, hg2⟩
      go_wp2_with fail
      go_ret2
      exact ⟨none, 0, rfl, World.ownsRow_nil _ _ _ _, (hbox.trans hg1).trans hg2⟩
    · rw [if_pos ⟨rfl, rfl⟩]
      have HD0 := fun w => dir_impl u v w
      rw [hd] at HD0
      have HD := Lib.hid HD0
      have HDD := Lib.hid hd
      have hls := stl_len ps u v
      rw [hls]
      have HLS := Lib.hid hls
      clear hd HD0 hv hls
      go_enter Try.func39, Try.ntmps39
      go_wp2_with fail
      refine HC.out.mono ?_
      rintro e w1 ⟨rfl, hg1⟩
      have hd0 := (boxed2 hg1).1
      have hd1 := (boxed2 hg1).2
      go_wp2_with fail
      refine (HD.out _).mono ?_
      rintro e w2 ⟨rfl, hg2⟩
      have he0 := (boxed2 (hg1.trans hg2)).1
      have he1 := (boxed2 (hg1.trans hg2)).2
      have hg12 := (hbox.trans hg1).trans hg2
      have hsz := hg12.size
      go_wp2_with fail
      refine (pa_impl A c B ps u v w2 (hr.kept0 hg12 hB) (by omega) HV.out HDD.out).mono ?_
      rintro e w3 ⟨A', c', rfl, ho, hg3⟩
      go_wp2_with fail
      go_ret2
      exact ⟨_, _, rfl, own_mono ho hsz, hg12.trans hg3⟩

end Go.Proofs.Ytkjmlpdbnnmlhab.steering2
