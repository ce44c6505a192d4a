/- Weights that point to a direction: all answers of the model and of the program. -/
import Derived.Test.YtkjmlpdbnnmlhabRows
import Derived.Test.YtkjmlpdbnnmlhabSlc
import Derived.Test.YtkjmlpdbnnmlhabSmall
import Derived.Test.YtkjmlpdbnnmlhabOpens
import Derived.Test.YtkjmlpdbnnmlhabPlaces
import Derived.Test.YtkjmlpdbnnmlhabPlaceSet
import Derived.Test.YtkjmlpdbnnmlhabSteps
import Derived.Test.YtkjmlpdbnnmlhabListC
import Derived.Test.YtkjmlpdbnnmlhabFloats
import Derived.Test.YtkjmlpdbnnmlhabRound
import Derived.Test.YtkjmlpdbnnmlhabValues
import Derived.Test.YtkjmlpdbnnmlhabConv
import Derived.Test.YtkjmlpdbnnmlhabFWalk
import Derived.Test.YtkjmlpdbnnmlhabFinWalk
import Derived.Test.YtkjmlpdbnnmlhabFloat2
import Derived.Test.YtkjmlpdbnnmlhabFloat3
import Derived.Test.YtkjmlpdbnnmlhabPhase
import Derived.Test.YtkjmlpdbnnmlhabSine
import Derived.Test.YtkjmlpdbnnmlhabPhasor
import Derived.Test.YtkjmlpdbnnmlhabSteerNum
import Derived.Test.YtkjmlpdbnnmlhabSteering
import Derived.Test.YtkjmlpdbnnmlhabSteering2
import Derived.Test.YtkjmlpdbnnmlhabListF
import Derived.Test.YtkjmlpdbnnmlhabListCC
import Derived.Test.YtkjmlpdbnnmlhabSteerW
import Derived.WalkKit
import Derived.ProofKit
import Derived.OpenShut
import Derived.ShutString
import Derived.ChangeOld
import Derived.Below
import Derived.Lib.Hide
import Derived.BigQuiet
import Derived.Deep.QuietTactic
import Derived.WalkLawsBesides
import Derived.Outline
import Derived.Deep.LoopGhost
import Derived.Deep.QuietTactic
import Derived.BigQuiet
import Derived.Deep.RegionHeld3
namespace Go.Proofs.Ytkjmlpdbnnmlhab.steerW2
open Go.ChangeShapes Go.WideShapes Go.ChangeAt Go.RowKit
open Go.ChangeMaps (open_string shut_string)
set_option linter.unusedVariables false
open Go Ieee Go.RowKit
open Go.Proofs.Ytkjmlpdbnnmlhab.slc Go.Proofs.Ytkjmlpdbnnmlhab.small Go.Proofs.Ytkjmlpdbnnmlhab.opens Go.Proofs.Ytkjmlpdbnnmlhab.places Go.Proofs.Ytkjmlpdbnnmlhab.placeSet Go.Proofs.Ytkjmlpdbnnmlhab.listC Go.Proofs.Ytkjmlpdbnnmlhab.floats Go.Proofs.Ytkjmlpdbnnmlhab.round Go.Proofs.Ytkjmlpdbnnmlhab.values Go.Proofs.Ytkjmlpdbnnmlhab.conv Go.Proofs.Ytkjmlpdbnnmlhab.fWalk Go.Proofs.Ytkjmlpdbnnmlhab.steerNum Go.Proofs.Ytkjmlpdbnnmlhab.steering Go.Proofs.Ytkjmlpdbnnmlhab.steering2 Go.Proofs.Ytkjmlpdbnnmlhab.listF Go.Proofs.Ytkjmlpdbnnmlhab.listCC Go.Proofs.Ytkjmlpdbnnmlhab.steerW

attribute [local go_sem] run_store_complex
theorem mix_app (l : List (Nat × Nat)) (p q n j : Nat) (z : Nat → Value) (hj : l.length = j) (hn : j < n) : (lst (mix (ccell l) z j) n).set j (.complex .f32 p q) = lst (mix (ccell (l ++ [(p, q)])) z (j + 1)) n := by
  have e1 : lst (mix (ccell l) z j) n = lst (mix (ccell (l ++ [(p, q)])) z j) n := lst_congr fun i hi => by
    unfold mix
    split
    · rename_i h
      unfold ccell
      rw [show (l ++ [(p, q)]).getD i (0, 0) = l.getD i (0, 0) by simp [List.getD, List.getElem?_append_left (show i < l.length by omega)]]
    · rfl
  have e2 : ccell (l ++ [(p, q)]) j = .complex .f32 p q := by unfold ccell; subst hj; simp [List.getD]
  rw [e1, ← e2, mix_set _ _ _ _ hn]
set_option maxHeartbeats 2000000 in
set_option maxRecDepth 100000 in
theorem sw_impl (A A' : Option Addr) (c c' B : Nat) (ps : List (Int × Int)) (u v : Int) (x : Nat → Nat) (w : World) (hm : ps.length ≤ 9223372036854775807) (hr : Rd w B A (ps.length * 2) (pcell ps)) (hf : Rd w B A' ps.length (fl x)) (hB : B ≤ w.heap.size) (hv : vp ps = true) (hd : dirB u v = true) :
    Calls Try.prog 71 #[.slice A ps.length c, .agg #[.int .i64 u, .int .i64 v], .slice A' ps.length c'] w fun e w' => ∃ A'' c'' l, l.length = ps.length ∧ Scl (stl ps u v) x l ∧ e = .returned (.tuple #[.slice A'' ps.length c'', .bool true]) ∧
      w'.ownsRow w.heap.size 71 1 (.slice A'' ps.length c'') ps.length (lst (ccell l) ps.length) ∧ w.grownBy w' none := by
  obtain ⟨i0, hi0, hz0, hz1, hz2⟩ := info_parts infoC
  have hl16 := (vp_yes hv).2.1
  have hbox := World.grownBy_alloc w (.cells #[.int .i64 u, .int .i64 v] 41) none
  have hb0 := (boxed2 (World.grownBy.refl (w.alloc (.cells #[.int .i64 u, .int .i64 v] 41)) none)).1
  have hb1 := (boxed2 (World.grownBy.refl (w.alloc (.cells #[.int .i64 u, .int .i64 v] 41)) none)).2
  have hst := steering2.impl_c ps u v
  unfold steR at hst
  rw [if_pos ⟨hv, hd⟩] at hst
  have HST := Lib.hid hst
  have hls := stl_len ps u v
  have HLS := Lib.hid hls
  have hbB : B ≤ (w.alloc (.cells #[.int .i64 u, .int .i64 v] 41)).heap.size := by simp; omega
  clear hv hd hst hls
  generalize stl ps u v = L at *
  go_enter Try.func71, Try.ntmps71
  go_wp2_with fail
  refine (HST.out A c B _ hm (hr.kept0 hbox hB) hbB).mono ?_
  rintro e w3 ⟨A3, c3, rfl, ho3, hg3⟩
  have R3 := Rd.of_lst ho3 (Nat.mul_one _).symm
  have g3 := hbox.trans hg3
  have hf3 := hf.kept0 g3 hB
  dsimp only at R3 ⊢
  rw [HLS.out] at R3 ⊢
  clear ho3 hb0 hb1
  go_wp2_with (at_make; refine wpList_make_full _ rfl _ _ _ rfl w3.heap.size 71 i0 (.complex .f32 0 0) 1 Try.underlying68 hi0 hz0 hz1 _ _ _ _ ps.length rfl rfl rfl rfl (by rw [hz2]; omega) (by unfold maxLen; omega) (Nat.le_refl _) ?_; intro w4 hown4 hg4)
  go_loopw [33] (fun i wr => ∃ j : Nat, j ≤ ps.length ∧ i = .int .i64 j ∧ ∃ l : List (Nat × Nat), l.length = j ∧ Scl L x l ∧ wr.ownsRow w3.heap.size 71 1 (.slice (some ⟨w3.heap.size, 0, none⟩) ps.length ps.length) ps.length (lst (mix (ccell l) (fun _ => .complex .f32 0 0) j) ps.length) ∧ w3.grownBy wr none) (fun i _ => ps.length - (intOf i).toNat)
  case atStart =>
    refine ⟨0, Nat.zero_le _, rfl, [], rfl, Scl.nil _ _, ?_, hg4⟩
    rw [mix_zero, ← replicate_lst]
    rw [Nat.mul_one] at hown4
    exact (toList_madeCells_one (.complex .f32 0 0) ps.length) ▸ hown4
  case round =>
    obtain ⟨j, hj, rfl, l, hlk, hsc, hown, hg⟩ := hrel
    by_cases hlt : j < ps.length
    · obtain ⟨ad, rfl, _, hc1⟩ := (R3.kept0 hg (Nat.le_refl _)).at_ hlt
      have hB3 : B ≤ w3.heap.size := Nat.le_trans hB g3.size
      obtain ⟨bd, rfl, hbd, hc2⟩ := (hf3.kept0 hg hB3).at_ hlt
      have hsn := fun p q hp hq => hsc.snoc (p := p) (q := q) hlk hp hq
      unfold ccell at hc1
      have hc2' : wr.cell? (bd.add j) = some (.float .f32 (x j)) := hc2
      generalize (L.getD j (0, 0)).1 = a1 at *
      generalize (L.getD j (0, 0)).2 = a2 at *
      generalize x j = t1 at *
      have HSN := Lib.hid hsn
      have HMX := Lib.hid (fun p q => mix_app l p q ps.length j (fun _ => .complex .f32 0 0) hlk hlt)
      have k0 : (0 : Int) ≤ j := by omega
      have k1 : (j : Int) < ps.length := by omega
      clear hsn hc2 hsc
      go_wp2_with fail
      refine (scale_impl _ _ _ _).mono ?_
      rintro e w5 ⟨p, q, rfl, hp, hq, hg5⟩
      have hsc' := HSN.out p q hp hq
      have g5 := hg.trans hg5
      have hown5 := own_kept0 hown hg5
      have hcell5 := hown5.cellAt j (by omega)
      rw [lst_get _ _ _ hlt] at hcell5
      have hm5 : mix (ccell l) (fun _ => Value.complex .f32 0 0) j j = .complex .f32 0 0 := by unfold mix; rw [if_neg (Nat.lt_irrefl _)]
      rw [hm5] at hcell5
      have hf5 := hown5.frozenAt j
      obtain ⟨hs1, hs2⟩ := hown5.stored j (.complex .f32 p q)
      rw [HMX.out p q] at hs1
      have hs2' := gb_new g5 hs2 (by intro g e; injection e with e; omega)
      have HS4 := Lib.hid hs1
      have HG4 := Lib.hid hs2'
      clear hs1 hs2' hs2 hown5 g5 hg5 hown hg hm5 hc1 hc2'
      go_wp2
      go_roundw
      case rel => exact ⟨j + 1, by omega, by go_num, l ++ [(p, q)], by simp; omega, hsc', HS4.out, HG4.out⟩
      case measure => simp [intOf]; omega
    · obtain rfl : j = ps.length := by omega
      go_wp2_with fail
      go_ret2
      refine ⟨_, _, l, hlk, hsc, rfl, ?_, g3.trans hg⟩
      rw [← mix_full]
      exact own_mono hown g3.size

end Go.Proofs.Ytkjmlpdbnnmlhab.steerW2
