/- The bytes of a frame, by the model. -/
import Derived.Test.YthlfclnfkgiddaaDoorRows
import Derived.Test.YthlfclnfkgiddaaDoorSlc
import Derived.Test.YthlfclnfkgiddaaDoorSmall
import Derived.Test.YthlfclnfkgiddaaDoorWordN
import Derived.Test.YthlfclnfkgiddaaDoorNumN
import Derived.Test.YthlfclnfkgiddaaDoorWordS
import Derived.Test.YthlfclnfkgiddaaDoorCheckC
import Derived.Test.YthlfclnfkgiddaaDoorFloats
import Derived.Test.YthlfclnfkgiddaaDoorRound
import Derived.Test.YthlfclnfkgiddaaDoorValues
import Derived.Test.YthlfclnfkgiddaaDoorConv
import Derived.Test.YthlfclnfkgiddaaDoorFWalk
import Derived.Test.YthlfclnfkgiddaaDoorBits
import Derived.Test.YthlfclnfkgiddaaDoorPhase
import Derived.Test.YthlfclnfkgiddaaDoorSine
import Derived.Test.YthlfclnfkgiddaaDoorPhasor
import Derived.Test.YthlfclnfkgiddaaDoorFinWalk
import Derived.Test.YthlfclnfkgiddaaDoorFloat2
import Derived.Test.YthlfclnfkgiddaaDoorFloat3
import Derived.Test.YthlfclnfkgiddaaDoorListC
import Derived.WalkKit
import Derived.ProofKit
import Derived.OpenShut
import Derived.ShutString
import Derived.ChangeOld
import Derived.Below
import Derived.Lib.Hide
import Derived.BigQuiet
import Derived.Deep.QuietTactic
import Derived.WalkLawsBesides
import Derived.Outline
import Derived.Deep.QuietTactic
import Derived.BigQuiet
import Derived.Deep.LoopGhost
import Derived.Deep.RegionWith
import Derived.Deep.RegionHeld3
import Derived.Laws.ComplexArith
namespace Go.Proofs.YthlfclnfkgiddaaDoor.frameS
open Go.ChangeShapes Go.WideShapes Go.ChangeAt Go.RowKit
open Go.ChangeMaps (open_string shut_string)
set_option linter.unusedVariables false
open Go Ieee Go.RowKit
open Go.Proofs.YthlfclnfkgiddaaDoor.slc Go.Proofs.YthlfclnfkgiddaaDoor.small Go.Proofs.YthlfclnfkgiddaaDoor.wordN Go.Proofs.YthlfclnfkgiddaaDoor.numN Go.Proofs.YthlfclnfkgiddaaDoor.wordS Go.Proofs.YthlfclnfkgiddaaDoor.floats Go.Proofs.YthlfclnfkgiddaaDoor.bits Go.Proofs.YthlfclnfkgiddaaDoor.listC

theorem can_le {x : Nat} (h : x ≤ 4294967295) : can .f32 x ≤ 4294967295 := by
  by_cases hn : isNaN .f32 x = true
  · rw [can_of_nan hn]; decide
  · unfold can
    rw [if_neg hn]
    exact h
theorem bits_g (x : Nat) (w : World) (h : x ≤ 4294967295) : Calls Tryd.prog 154 #[.float .f32 x] w fun e w' => e = .returned (.int .i64 (can .f32 x)) ∧ w.grownBy w' none :=
  (spec_bits x w (by omega)).mono fun e w' ⟨h1, h2⟩ => ⟨h1, by subst h2; exact World.grownBy.refl _ _⟩
theorem spec_check_fw (F : List UInt8) (w : World) (h : F.length ≤ 1000) : Calls Tryd.prog 93 #[.int .i64 0, .string (bs F)] w fun e w' => e = .returned (.int .i64 (ck F : Nat)) ∧ w = w' := by
  have h1 := checkC.spec_check 0 (bs F) w (by omega) (by omega) (by rw [bs_size]; unfold maxLen; omega)
  rw [bs_list, ← (ck_is F).1] at h1
  exact h1
section
set_option maxHeartbeats 2000000 in
set_option maxRecDepth 100000 in
theorem frame_s (g B idx c : Nat) (A : Option Addr) (xs : List (Nat × Nat)) (w : World) (hx : ∀ x ∈ xs, x.1 ≤ 4294967295 ∧ x.2 ≤ 4294967295) (hn : xs.length ≤ 16) (hi : idx < 4294967296)
    (h0 : w.cell? ⟨g, 0, none⟩ = some (.int .i64 (idx : Int))) (h1 : w.cell? ⟨g, 1, none⟩ = some (.slice A xs.length c)) (hr : Rd w B A xs.length (ccell xs)) (hB : B ≤ w.heap.size) :
    Calls Tryd.prog 129 #[.pointer (some ⟨g, 0, none⟩)] w fun e w' => e = .returned (.string (bs (fb (can .f32) idx xs))) ∧ w.grownBy w' none := by
  obtain ⟨N, hN⟩ : ∃ N, xs.length = N := ⟨_, rfl⟩
  rw [hN] at h1 hr hn
  have HH := Lib.hid (fun (w' : World) (hg : w.grownBy w' none) => And.intro (hg.cell h1 (by simp)) (hr.kept0 hg hB))
  have HW := Lib.hid (fun w => word_s idx 4 w hi (by omega) (by omega))
  have HX := Lib.hid hx
  have HNL := Lib.hid hN
  clear h1 hr hx
  go_enter Tryd.func129, Tryd.ntmps129
  go_wp2_with fail
  refine (HW.out _).mono ?_
  rintro e w1 ⟨rfl, g1⟩
  have HG := Lib.hid g1
  clear g1 h0
  go_wp2_with fail
  go_loopw [3, 4] (fun v i wr => ∃ k : Nat, k ≤ N ∧ i = .int .i64 k ∧ v = .string (bs (fw (can .f32) idx (xs.take k))) ∧ w.grownBy wr none) (fun _ i _ => N - (intOf i).toNat)
  case atStart => exact ⟨0, Nat.zero_le _, rfl, by rw [List.take_zero]; unfold fw; simp, HG.out⟩
  case round =>
    obtain ⟨k, hk, rfl, rfl, hg⟩ := hrel
    obtain ⟨hs, hrd⟩ := HH.out wr hg
    by_cases hlt : k < N
    · obtain ⟨ad, rfl, _, hc⟩ := hrd.at_ hlt
      obtain ⟨x, y, hxy⟩ : ∃ x y, xs[k]'(by rw [HNL.out]; exact hlt) = (x, y) := ⟨_, _, rfl⟩
      have hxb := HX.out _ (List.getElem_mem (by rw [HNL.out]; exact hlt : k < xs.length))
      rw [hxy] at hxb
      dsimp only at hxb
      have hc' : wr.cell? (ad.add k) = some (.complex .f32 x y) := by
        rw [hc]
        unfold ccell
        rw [show xs.getD k (0, 0) = (x, y) by rw [← hxy]; simp [List.getD, HNL.out, hlt]]
      have htk : xs.take (k + 1) = xs.take k ++ [(x, y)] := by rw [List.take_succ_eq_append_getElem (by rw [HNL.out]; exact hlt), hxy]
      have hlen : (fw (can .f32) idx (xs.take k)).length ≤ 1000 := by rw [fw_len, List.length_take]; omega
      have hfw := fw_snoc (can .f32) idx (xs.take k) (x, y)
      rw [← htk] at hfw
      have HFW := Lib.hid hfw
      have HBT := Lib.hid (fun (z : Nat) (w : World) (h : z ≤ 4294967295) => bits_g z w h)
      have HWT := Lib.hid (fun (z : Nat) (w : World) (h : z ≤ 4294967295) => word_s z 4 w (by omega) (by omega) (by omega))
      have x1 := hxb.1
      have y1 := hxb.2
      have cx1 := can_le x1
      have cy1 := can_le y1
      have z1 : (bs (wb (can .f32 x) 4)).size + (bs (wb (can .f32 y) 4)).size ≤ 9223372036854775807 := by rw [bs_size, bs_size, wb_len, wb_len]; decide
      have z2 : (bs (fw (can .f32) idx (xs.take k))).size + ((bs (wb (can .f32 x) 4)).size + (bs (wb (can .f32 y) 4)).size) ≤ 9223372036854775807 := by rw [bs_size, bs_size, bs_size, wb_len, wb_len]; omega
      have z1' : ¬ 9223372036854775807 < (bs (wb (can .f32 x) 4)).size + (bs (wb (can .f32 y) 4)).size := by omega
      have z2' : ¬ 9223372036854775807 < (bs (fw (can .f32) idx (xs.take k))).size + ((bs (wb (can .f32 x) 4)).size + (bs (wb (can .f32 y) 4)).size) := by omega
      have HG2 := Lib.hid hg
      have k0 : (0 : Int) ≤ (k : Int) := by omega
      have k1 : (k : Int) < (N : Int) := by omega
      clear hc hfw htk hlen hxb hxy hrd
      generalize fw (can .f32) idx (xs.take k) = F at *
      go_wp2_with fail
      have gA := hg
      clear hg
      go_region_held3 (fun w' => w'.cell? ⟨g, 1, none⟩ = some (.slice (some ad) N c) ∧ w'.cell? (ad.add k) = some (.complex .f32 x y) ∧ w.grownBy w' none)
        (first
          | (go_split_ands
             exact ⟨by assumption, by assumption, by assumption⟩)
          | (go_split_ands
             exact ⟨hg.cell (by assumption) (by simp), hg.cell (by assumption) (by simp), World.grownBy.trans (by assumption) hg⟩)
          | exact ⟨hs, hc', ⟨gA.os, gA.tape, gA.output, gA.size, gA.block⟩⟩)
        ((first
          | (go_at_call 154; refine (HBT.out _ _ (by assumption)).mono ?_; rintro e w3 ⟨rfl, hg⟩)
          | (go_at_call 153; refine (HWT.out _ _ (by assumption)).mono ?_; rintro e w3 ⟨rfl, hg⟩)))
      all_goals
        obtain ⟨_, _, hfin⟩ : (w3.cell? ⟨g, 1, none⟩ = some (.slice (some ad) N c) ∧ w3.cell? (ad.add k) = some (.complex .f32 x y) ∧ w.grownBy w3 none) := by assumption
        have HF := Lib.hid hfin
        clear hfin
        go_wp2_with fail
        go_roundw
        case rel => exact ⟨k + 1, by omega, by go_num, by rw [bs_app, bs_app, HFW.out], HF.out⟩
        case measure => simp [intOf]; omega
    · obtain rfl : k = N := by omega
      have HT := Lib.hid (show xs.take k = xs from List.take_of_length_le (by rw [HNL.out]; exact Nat.le_refl _))
      rw [HT.out]
      have hlen : (fw (can .f32) idx xs).length ≤ 1000 := by rw [fw_len, HNL.out]; omega
      have HC := Lib.hid (fun w => spec_check_fw (fw (can .f32) idx xs) w hlen)
      have HWC := Lib.hid (fun w => word_s (ck (fw (can .f32) idx xs)) 2 w (by have := (ck_is (fw (can .f32) idx xs)).2; omega) (by omega) (by omega))
      have z3 : ¬ 9223372036854775807 < (bs (fw (can .f32) idx xs)).size + (bs (wb (ck (fw (can .f32) idx xs)) 2)).size := by rw [bs_size, bs_size, wb_len]; omega
      have HE := Lib.hid (show bs (fw (can .f32) idx xs) ++ bs (wb (ck (fw (can .f32) idx xs)) 2) = bs (fb (can .f32) idx xs) from bs_app _ _)
      have HG2 := Lib.hid hg
      clear hrd hg hlen
      generalize fw (can .f32) idx xs = F at *
      generalize wb (ck F) 2 = W2 at *
      generalize ck F = C at *
      go_wp2_with fail
      refine (HC.out _).mono ?_
      rintro e w' ⟨rfl, rfl⟩
      go_wp2_with fail
      refine (HWC.out _).mono ?_
      rintro e w4 ⟨rfl, g4⟩
      go_wp2_with fail
      go_ret
      exact ⟨by rw [← HE.out]; rfl, HG2.out.trans g4⟩
end

end Go.Proofs.YthlfclnfkgiddaaDoor.frameS
