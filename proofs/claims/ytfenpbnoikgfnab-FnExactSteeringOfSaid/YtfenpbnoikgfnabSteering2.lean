/- The phases of a wave: all answers. -/
import Derived.Test.YtfenpbnoikgfnabRows
import Derived.Test.YtfenpbnoikgfnabSlc
import Derived.Test.YtfenpbnoikgfnabSmall
import Derived.Test.YtfenpbnoikgfnabOpens
import Derived.Test.YtfenpbnoikgfnabPlaces
import Derived.Test.YtfenpbnoikgfnabPlaceSet
import Derived.Test.YtfenpbnoikgfnabSteps
import Derived.Test.YtfenpbnoikgfnabListC
import Derived.Test.YtfenpbnoikgfnabFloats
import Derived.Test.YtfenpbnoikgfnabRound
import Derived.Test.YtfenpbnoikgfnabValues
import Derived.Test.YtfenpbnoikgfnabConv
import Derived.Test.YtfenpbnoikgfnabFWalk
import Derived.Test.YtfenpbnoikgfnabFinWalk
import Derived.Test.YtfenpbnoikgfnabFloat2
import Derived.Test.YtfenpbnoikgfnabFloat3
import Derived.Test.YtfenpbnoikgfnabPhase
import Derived.Test.YtfenpbnoikgfnabSine
import Derived.Test.YtfenpbnoikgfnabPhasor
import Derived.Test.YtfenpbnoikgfnabSteerNum
import Derived.Test.YtfenpbnoikgfnabSteering
import Derived.WalkKit
import Derived.ProofKit
import Derived.OpenShut
import Derived.ShutString
import Derived.ChangeOld
import Derived.Below
import Derived.Lib.Hide
import Derived.BigQuiet
import Derived.Deep.QuietTactic
import Derived.WalkLawsBesides
import Derived.Outline
import Derived.Deep.LoopGhost
namespace Go.Proofs.Ytfenpbnoikgfnab.steering2
open Go.ChangeShapes Go.WideShapes Go.ChangeAt Go.RowKit
open Go.ChangeMaps (open_string shut_string)
set_option linter.unusedVariables false
open Go Ieee Go.RowKit
open Go.Proofs.Ytfenpbnoikgfnab.slc Go.Proofs.Ytfenpbnoikgfnab.small Go.Proofs.Ytfenpbnoikgfnab.opens Go.Proofs.Ytfenpbnoikgfnab.places Go.Proofs.Ytfenpbnoikgfnab.placeSet Go.Proofs.Ytfenpbnoikgfnab.listC Go.Proofs.Ytfenpbnoikgfnab.steerNum Go.Proofs.Ytfenpbnoikgfnab.steering

/-- What is returned. -/
def steR (ps : List (Int × Int)) (u v : Int) : List (Nat × Nat) × Bool := if vp ps = true ∧ dirB u v = true then (stl ps u v, true) else ([], false)
theorem steR_len (ps : List (Int × Int)) (u v : Int) : (steR ps u v).1.length ≤ 16 := by
  unfold steR; split
  · rename_i h
    rw [stl_len]
    exact (vp_yes h.1).2.1
  · exact Nat.zero_le _
theorem steR_fin (ps : List (Int × Int)) (u v : Int) : FinL (steR ps u v).1 := by
  unfold steR; split
  · rename_i h
    intro p hp
    obtain ⟨q, hq, rfl⟩ := List.mem_map.1 hp
    exact phz_fin _ (steps_bd ((vp_yes h.1).2.2.1 q hq) h.2).1
  · intro p hp; cases hp
/-- What a function answers. -/
def Sted (F : Nat) (ps : List (Int × Int)) (u v : Int) (l : List (Nat × Nat)) (ok : Bool) : Prop :=
  ∀ (A : Option Addr) (c B : Nat) (w : World), ps.length ≤ 9223372036854775807 → Rd w B A (ps.length * 2) (pcell ps) → B ≤ w.heap.size → Calls Try.prog F #[.slice A ps.length c, .agg #[.int .i64 u, .int .i64 v]] w fun e w' => ∃ A' c', e = .returned (.tuple #[.slice A' l.length c', .bool ok]) ∧
      w'.ownsRow w.heap.size 73 1 (.slice A' l.length c') l.length (lst (ccell l) l.length) ∧ w.grownBy w' none

set_option maxHeartbeats 400000 in
theorem spec_c (ps : List (Int × Int)) (u v : Int) : Sted 36 ps u v (steR ps u v).1 (steR ps u v).2 := by
  intro A c B w hm hr hB
  have hbox := World.grownBy_alloc w (.cells #[.int .i64 u, .int .i64 v] 32) none
  have hr1 := hr.kept0 hbox hB
  have HC0 := is_spec A c B ps (w.alloc (.cells #[.int .i64 u, .int .i64 v] 32)) hm hr1 (by simp; omega)
  unfold steR
  cases hv : vp ps
  · rw [if_neg (by simp)]
    rw [hv] at HC0
    have HC := Lib.hid HC0
    clear hv HC0
    go_enter Try.func36, Try.ntmps36
    go_wp2_with fail
    refine HC.out.mono ?_
    rintro e w1 ⟨rfl, hg1⟩
    go_wp2_with fail
    go_ret2
    exact ⟨none, 0, rfl, World.ownsRow_nil _ _ _ _, hbox.trans hg1⟩
  · rw [hv] at HC0
    have HC := Lib.hid HC0
    have HV := Lib.hid hv
    clear HC0
    cases hd : dirB u v
    · rw [if_neg (by simp)]
      have HD0 := fun w => dir_spec u v w
      rw [hd] at HD0
      have HD := Lib.hid HD0
      clear hd HD0 hv
      go_enter Try.func36, Try.ntmps36
      go_wp2_with fail
      refine HC.out.mono ?_
      rintro e w1 ⟨rfl, hg1⟩
      have hd0 := (boxed2 hg1).1
      have hd1 := (boxed2 hg1).2
      go_wp2_with fail
      refine (HD.out _).mono ?_
      rintro e w2 ⟨rfl, hg2⟩
      go_wp2_with fail
      go_ret2
      exact ⟨none, 0, rfl, World.ownsRow_nil _ _ _ _, (hbox.trans hg1).trans hg2⟩
    · rw [if_pos ⟨rfl, rfl⟩]
      have HD0 := fun w => dir_spec u v w
      rw [hd] at HD0
      have HD := Lib.hid HD0
      have HDD := Lib.hid hd
      have hls := stl_len ps u v
      rw [hls]
      have HLS := Lib.hid hls
      clear hd HD0 hv hls
      go_enter Try.func36, Try.ntmps36
      go_wp2_with fail
      refine HC.out.mono ?_
      rintro e w1 ⟨rfl, hg1⟩
      have hd0 := (boxed2 hg1).1
      have hd1 := (boxed2 hg1).2
      go_wp2_with fail
      refine (HD.out _).mono ?_
      rintro e w2 ⟨rfl, hg2⟩
      have he0 := (boxed2 (hg1.trans hg2)).1
      have he1 := (boxed2 (hg1.trans hg2)).2
      have hg12 := (hbox.trans hg1).trans hg2
      have hsz := hg12.size
      go_wp2_with fail
      refine (stg_spec A c B ps u v w2 (hr.kept0 hg12 hB) (by omega) HV.out HDD.out).mono ?_
      rintro e w3 ⟨A', c', rfl, ho, hg3⟩
      go_wp2_with fail
      go_ret2
      exact ⟨_, _, rfl, own_mono ho hsz, hg12.trans hg3⟩

set_option maxHeartbeats 400000 in
set_option maxRecDepth 100000 in
theorem impl_c (ps : List (Int × Int)) (u v : Int) : Sted 37 ps u v (steR ps u v).1 (steR ps u v).2 := by
  intro A c B w hm hr hB
  unfold steR
  split
  · rename_i h
    rw [stl_len]
    exact st_impl A c B ps u v w hr hB h.1 h.2
  · rename_i h
    obtain ⟨i0, hi0, hz0, hz1, hz2⟩ := info_parts infoC
    have hbox := World.grownBy_alloc w (.cells #[.int .i64 u, .int .i64 v] 32) none
    have hr1 := hr.kept0 hbox hB
    have HC0 := is_impl A c B ps (w.alloc (.cells #[.int .i64 u, .int .i64 v] 32)) hm hr1 (by simp; omega)
    cases hv : vp ps
    · rw [hv] at HC0
      have HC := Lib.hid HC0
      clear hv HC0 h
      go_enter Try.func37, Try.ntmps37
      go_wp2_with fail
      refine HC.out.mono ?_
      rintro e w1 ⟨rfl, hg1⟩
      go_wp2_with fail
      go_ret2
      exact ⟨none, 0, rfl, World.ownsRow_nil _ _ _ _, hbox.trans hg1⟩
    · rw [hv] at HC0
      have hl16 := (vp_yes hv).2.1
      have hl1 := (vp_yes hv).1
      have hd : dirB u v = false := by
        cases hd : dirB u v
        · rfl
        · exact absurd ⟨hv, hd⟩ h
      have hok := ok_at hv 0 (by omega)
      have hq : steps.stR ps[0].1 ps[0].2 u v = (0, false) := by
        unfold steps.stR
        rw [if_neg (by rw [hd]; simp)]
      have G := fun w => steps.st_impl ps[0].1 ps[0].2 u v w
      rw [hq] at G
      have HC := Lib.hid HC0
      have HG := Lib.hid G
      clear hv HC0 h hd hok hq G
      go_enter Try.func37, Try.ntmps37
      go_wp2_with fail
      refine HC.out.mono ?_
      rintro e w1 ⟨rfl, hg1⟩
      have hszw : w.heap.size + 1 ≤ w1.heap.size := by have := hg1.size; simpa using this
      go_wp2_with (at_make; refine wpList_make_full _ rfl _ _ _ rfl (w.heap.size + 1) 73 i0 (.complex .f32 0 0) 1 Try.underlying50 hi0 hz0 hz1 _ _ _ _ ps.length rfl rfl rfl rfl (by rw [hz2]; omega) (by unfold maxLen; omega) hszw ?_; intro w2 hown hg2)
      have hg12 := hg1.trans hg2
      go_loopw [19] (fun i wr => i = .int .i64 0 ∧ (w.alloc (.cells #[.int .i64 u, .int .i64 v] 32)).grownBy wr none) (fun _ _ => 0)
      case atStart => exact ⟨rfl, hg12⟩
      case round =>
        obtain ⟨rfl, hg⟩ := hrel
        obtain ⟨ad, rfl, hab, hx, hy⟩ := Rd.pair (hr.kept0 (hbox.trans hg) hB) (k := 0) (by omega)
        simp only [Nat.zero_mul] at hx hy
        have ez : ad.add 0 = ad := rfl
        rw [ez] at hx hy
        clear ez
        have hd0 := (boxed2 hg).1
        have hd1 := (boxed2 hg).2
        have hz : w.heap.size < wr.heap.size := by have := hg.size; simp at this; omega
        have hn0 : 0 < ps.length := by omega
        have hn1 : (0 : Int) < ps.length := by omega
        go_wp2_with fail
        refine (HG.out _).mono ?_
        rintro e w5 ⟨rfl, hg5⟩
        have hgr := (hbox.trans hg).trans ((World.grownBy_alloc _ _ _).trans hg5)
        go_wp2_with fail
        go_ret2
        exact ⟨none, 0, rfl, World.ownsRow_nil _ _ _ _, hgr⟩

end Go.Proofs.Ytfenpbnoikgfnab.steering2
