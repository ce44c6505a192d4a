/- The program's power of a list, root, and normed weights. -/
import Derived.Test.YtabbfpjngbiohaaRows
import Derived.Test.YtabbfpjngbiohaaSlc
import Derived.Test.YtabbfpjngbiohaaSmall
import Derived.Test.YtabbfpjngbiohaaR8
import Derived.Test.YtabbfpjngbiohaaSrc
import Derived.Test.YtabbfpjngbiohaaFloats
import Derived.Test.YtabbfpjngbiohaaRound
import Derived.Test.YtabbfpjngbiohaaValues
import Derived.Test.YtabbfpjngbiohaaConv
import Derived.Test.YtabbfpjngbiohaaFWalk
import Derived.Test.YtabbfpjngbiohaaFinWalk
import Derived.Test.YtabbfpjngbiohaaFloat2
import Derived.Test.YtabbfpjngbiohaaFloat3
import Derived.Test.YtabbfpjngbiohaaPhase
import Derived.Test.YtabbfpjngbiohaaSine
import Derived.Test.YtabbfpjngbiohaaPhasor
import Derived.Test.YtabbfpjngbiohaaListC
import Derived.Test.YtabbfpjngbiohaaSteerNum
import Derived.Test.YtabbfpjngbiohaaSineIn
import Derived.Test.YtabbfpjngbiohaaPolyNum
import Derived.Test.YtabbfpjngbiohaaPolyW
import Derived.Test.YtabbfpjngbiohaaPoly1
import Derived.Test.YtabbfpjngbiohaaListCC
import Derived.Test.YtabbfpjngbiohaaPoly2
import Derived.Test.YtabbfpjngbiohaaGPoly
import Derived.Test.YtabbfpjngbiohaaGNum
import Derived.Test.YtabbfpjngbiohaaSrcW
import Derived.Test.YtabbfpjngbiohaaRq
import Derived.Test.YtabbfpjngbiohaaRoot
import Derived.Test.YtabbfpjngbiohaaPowW
import Derived.Test.YtabbfpjngbiohaaRootN
import Derived.Test.YtabbfpjngbiohaaQuoN
import Derived.Test.YtabbfpjngbiohaaFine
import Derived.Test.YtabbfpjngbiohaaFineN
import Derived.Test.YtabbfpjngbiohaaNormQ
import Derived.Test.YtabbfpjngbiohaaNormNum
import Derived.Test.YtabbfpjngbiohaaNormSum
import Derived.WalkKit
import Derived.ProofKit
import Derived.OpenShut
import Derived.ShutString
import Derived.ChangeOld
import Derived.Below
import Derived.Lib.Hide
import Derived.BigQuiet
import Derived.Deep.QuietTactic
import Derived.WalkLawsBesides
import Derived.Outline
import Derived.Deep.LoopGhost
import Derived.Deep.QuietTactic
import Derived.BigQuiet
import Derived.Deep.RegionHeld3
import Derived.StillTailTactics
import Derived.Laws.ComplexArith
namespace Go.Proofs.Ytabbfpjngbiohaa.normP
open Go.ChangeShapes Go.WideShapes Go.ChangeAt Go.RowKit
open Go.ChangeMaps (open_string shut_string)
set_option linter.unusedVariables false
open Go Ieee Go.RowKit
open Go.Proofs.Ytabbfpjngbiohaa.slc Go.Proofs.Ytabbfpjngbiohaa.small Go.Proofs.Ytabbfpjngbiohaa.listCC Go.Proofs.Ytabbfpjngbiohaa.poly2 Go.Proofs.Ytabbfpjngbiohaa.floats Go.Proofs.Ytabbfpjngbiohaa.round Go.Proofs.Ytabbfpjngbiohaa.values Go.Proofs.Ytabbfpjngbiohaa.conv Go.Proofs.Ytabbfpjngbiohaa.fWalk Go.Proofs.Ytabbfpjngbiohaa.float2 Go.Proofs.Ytabbfpjngbiohaa.float3 Go.Proofs.Ytabbfpjngbiohaa.phase Go.Proofs.Ytabbfpjngbiohaa.sine Go.Proofs.Ytabbfpjngbiohaa.phasor Go.Proofs.Ytabbfpjngbiohaa.listC Go.Proofs.Ytabbfpjngbiohaa.sineIn Go.Proofs.Ytabbfpjngbiohaa.polyNum Go.Proofs.Ytabbfpjngbiohaa.polyW Go.Proofs.Ytabbfpjngbiohaa.poly1 Go.Proofs.Ytabbfpjngbiohaa.gPoly Go.Proofs.Ytabbfpjngbiohaa.gNum Go.Proofs.Ytabbfpjngbiohaa.rq Go.Proofs.Ytabbfpjngbiohaa.powW Go.Proofs.Ytabbfpjngbiohaa.rootN Go.Proofs.Ytabbfpjngbiohaa.quoN Go.Proofs.Ytabbfpjngbiohaa.fine Go.Proofs.Ytabbfpjngbiohaa.fineN Go.Proofs.Ytabbfpjngbiohaa.normQ Go.Proofs.Ytabbfpjngbiohaa.normNum Go.Proofs.Ytabbfpjngbiohaa.normSum

/-- Each power that is added, by the words. -/
def PsOk (l : List (Nat × Nat)) : Prop := ∀ k, k < l.length → PowOk (l.getD k (0, 0)) ∧ floatBits .add .f64 (psum (l.take k)) (pwW (l.getD k (0, 0))) = some (psum (l.take (k + 1)))
theorem take_snoc (l : List (Nat × Nat)) (k : Nat) (h : k < l.length) : l.take (k + 1) = l.take k ++ [l.getD k (0, 0)] := by
  rw [List.take_add_one, List.getElem?_eq_getElem h, List.getD_eq_getElem?_getD, List.getElem?_eq_getElem h]; rfl
set_option maxHeartbeats 2000000 in
set_option maxRecDepth 100000 in
theorem powers_impl (A : Option Addr) (c B r : Nat) (l : List (Nat × Nat)) (w : World) (hn : l.length ≤ 64) (hok : PsOk l) (hr : Rd w B A l.length (ccell l)) (hB : B ≤ w.heap.size) (hw : floatToFloatBits .f64 (psum l) .f32 = some r) :
    Calls Try.prog 19 #[.slice A l.length c] w fun e w' => e = .returned (.tuple #[.float .f32 r, .bool true]) ∧ w.grownBy w' none := by
  have hcn := cvn hw
  have hn' : (l.length : Int) ≤ 64 := by omega
  have HOK := Lib.hid hok
  clear hok hw
  go_enter Try.func19, Try.ntmps19
  go_wp2_with fail
  go_loopw [4, 12] (fun s i wr => ∃ k : Nat, k ≤ l.length ∧ i = .int .i64 k ∧ s = .float .f64 (psum (l.take k)) ∧ w.grownBy wr none) (fun _ i _ => l.length - (intOf i).toNat)
  case atStart => exact ⟨0, Nat.zero_le _, rfl, rfl, World.grownBy.refl _ _⟩
  case round =>
    obtain ⟨k, hk, rfl, rfl, hg⟩ := hrel
    by_cases hlt : k < l.length
    · obtain ⟨ad, rfl, _, hc⟩ := (hr.kept0 hg hB).at_ hlt
      unfold ccell at hc
      obtain ⟨m, e1⟩ := HOK.out k hlt
      obtain ⟨S1, hS1⟩ : ∃ s, psum (l.take (k + 1)) = s := ⟨_, rfl⟩
      rw [hS1] at e1
      have HS1 := Lib.hid hS1
      clear hS1
      have hadd := fun w : World => run_ok (P := Try.prog) e1 rfl (w := w) (t := 32)
      have HM := Lib.hid m
      clear m e1
      generalize psum (l.take k) = S0 at *
      generalize l.getD k (0, 0) = X at *
      have k0 : (0 : Int) ≤ k := by omega
      have k1 : (k : Int) < l.length := by omega
      go_wp2_with fail
      refine (widen_c HM.out.a1 HM.out.a2 _).mono ?_
      rintro e w' ⟨rfl, rfl⟩
      go_wp2_with fail
      refine (power_c HM.out _).mono ?_
      rintro e w' ⟨rfl, rfl⟩
      go_wp2_with fail
      go_roundw
      case rel => exact ⟨k + 1, by omega, by go_num, by rw [HS1.out], hg⟩
      case measure => simp [intOf]; omega
    · obtain rfl : k = l.length := by omega
      rw [List.take_length]
      go_wp2_with fail
      go_ret2
      exact ⟨rfl, hg⟩
theorem root_impl {p s : Nat} (h1 : floatToFloatBits .f32 p .f64 = some (wd p)) (h2 : double.sqrt (wd p) = some s) (h3 : floatToFloatBits .f64 s .f32 = some (rtW p)) (w : World) :
    Calls Try.prog 91 #[.float .f32 p] w fun e w' => e = .returned (.float .f32 (rtW p)) ∧ w = w' := by
  have c1 := cvw h1
  have c3 := cvn h3
  clear h1 h3
  generalize rtW p = r at *
  generalize wd p = W at *
  go_enter Try.func91, Try.ntmps91
  go_wp2_with fail
  refine (sqrt_c h2 _).mono ?_
  rintro e w' ⟨rfl, rfl⟩
  go_wp2_with fail
  go_ret
  exact ⟨rfl, rfl⟩

theorem count_c (n : Int) (w : World) (h : 1 ≤ n) (h2 : n ≤ 16) :
    Calls Try.prog 168 #[.int .i64 n] w fun e w' => e = .returned (.bool true) ∧ w = w' := by
  go_enter Try.func168, Try.ntmps168
  go_wp2_with (go_at_call 100; refine (within_yes _ _ _ _ h h2).mono ?_; rintro e w' ⟨rfl, rfl⟩)
  go_ret
  exact ⟨rfl, rfl⟩
theorem weights_c (A : Option Addr) (n c : Nat) (w : World) (h : 1 ≤ n) (h2 : n ≤ 16) :
    Calls Try.prog 96 #[.slice A n c] w fun e w' => e = .returned (.bool true) ∧ w = w' := by
  go_enter Try.func96, Try.ntmps96
  go_wp2_with fail
  refine (count_c _ _ (by omega) (by omega)).mono ?_
  rintro e w' ⟨rfl, rfl⟩
  go_wp2_with fail
  go_ret
  exact ⟨rfl, rfl⟩
theorem scale_c {y : Nat} {x : Nat × Nat} (h : ScOk y x) (w : World) :
    Calls Try.prog 123 #[.complex .f32 x.1 x.2, .float .f32 y] w fun e w' => e = .returned (.complex .f32 (sc y x).1 (sc y x).2) ∧ w = w' := by
  have r1 := fun w : World => run32 h.a rfl w 29
  have r2 := fun w : World => run32 h.b rfl w 29
  clear h
  generalize sc y x = z at *
  go_enter Try.func123, Try.ntmps123
  go_wp2_with fail
  go_ret
  exact ⟨rfl, rfl⟩
attribute [local go_sem] run_store_complex
set_option maxHeartbeats 2000000 in
set_option maxRecDepth 100000 in
theorem scales_impl (A : Option Addr) (c B y : Nat) (l : List (Nat × Nat)) (w : World) (hn : l.length ≤ 16) (hm : ∀ j, j < l.length → ScOk y (l.getD j (0, 0))) (hr : Rd w B A l.length (ccell l)) (hB : B ≤ w.heap.size) :
    Calls Try.prog 167 #[.slice A l.length c, .float .f32 y, .func (.func 123) #[] #[]] w fun e w' => ∃ A' c', e = .returned (.slice A' l.length c') ∧ w'.ownsRow w.heap.size 36 1 (.slice A' l.length c') l.length (lst (ccell (l.map (sc y))) l.length) ∧ w.grownBy w' none := by
  obtain ⟨i0, hi0, hz0, hz1, hz2⟩ := info_parts infoC
  have HM := Lib.hid hm
  clear hm
  go_enter Try.func167, Try.ntmps167
  go_wp2_with (at_make; refine wpList_make_full _ rfl _ _ _ rfl w.heap.size 36 i0 (.complex .f32 0 0) 1 Try.underlying24 hi0 hz0 hz1 _ _ _ _ l.length rfl rfl rfl rfl (by rw [hz2]; omega) (by unfold maxLen; omega) (Nat.le_refl _) ?_; intro w4 hown4 hg4)
  go_loopw [15] (fun i wr => ∃ j : Nat, j ≤ l.length ∧ i = .int .i64 j ∧ wr.ownsRow w.heap.size 36 1 (.slice (some ⟨w.heap.size, 0, none⟩) l.length l.length) l.length (lst (mix (ccell (l.map (sc y))) (fun _ => .complex .f32 0 0) j) l.length) ∧ w.grownBy wr none) (fun i _ => l.length - (intOf i).toNat)
  case atStart =>
    refine ⟨0, Nat.zero_le _, rfl, ?_, hg4⟩
    rw [mix_zero, ← replicate_lst]
    rw [Nat.mul_one] at hown4
    exact (toList_madeCells_one (.complex .f32 0 0) l.length) ▸ hown4
  case round =>
    obtain ⟨j, hj, rfl, hown, hg⟩ := hrel
    by_cases hlt : j < l.length
    · obtain ⟨ad, rfl, _, hc1⟩ := (hr.kept0 hg hB).at_ hlt
      unfold ccell at hc1
      have HMX := Lib.hid (mix_map (sc y) l (fun _ => .complex .f32 0 0) j hlt)
      have hmq := fun w => (scale_c (HM.out j hlt) w).mono fun e w' h => (⟨h.1, h.2.symm⟩ : _ ∧ w' = w)
      have MQ := Lib.hid hmq
      clear hmq
      generalize l.getD j (0, 0) = u at *
      generalize sc y u = m at *
      have k0 : (0 : Int) ≤ j := by omega
      have k1 : (j : Int) < l.length := by omega
      go_wp2_with fail
      refine (MQ.out _).mono ?_
      rintro e w5 ⟨rfl, rfl⟩
      have hcell5 := hown.cellAt j (by omega)
      rw [lst_get _ _ _ hlt] at hcell5
      have hm5 : mix (ccell (l.map (sc y))) (fun _ => Value.complex .f32 0 0) j j = .complex .f32 0 0 := by unfold mix; rw [if_neg (Nat.lt_irrefl _)]
      rw [hm5] at hcell5
      have hf5 := hown.frozenAt j
      obtain ⟨hs1, hs2⟩ := hown.stored j (.complex .f32 m.1 m.2)
      rw [HMX.out] at hs1
      have hs2' := gb_new hg hs2 (by intro g e; injection e with e; omega)
      have HS4 := Lib.hid hs1
      have HG4 := Lib.hid hs2'
      clear hs1 hs2' hs2 hown hg hm5 hc1
      go_wp2
      go_roundw
      case rel => exact ⟨j + 1, by omega, by go_num, HS4.out, HG4.out⟩
      case measure => simp [intOf]; omega
    · obtain rfl : j = l.length := by omega
      go_wp2_with fail
      go_ret
      refine ⟨_, _, rfl, ?_, hg⟩
      rw [← mix_full]
      exact hown
theorem scaleW_impl (A : Option Addr) (c B y : Nat) (l : List (Nat × Nat)) (w : World) (h1 : 1 ≤ l.length) (hn : l.length ≤ 16) (hm : ∀ j, j < l.length → ScOk y (l.getD j (0, 0))) (hr : Rd w B A l.length (ccell l)) (hB : B ≤ w.heap.size) :
    Calls Try.prog 93 #[.slice A l.length c, .float .f32 y] w fun e w' => ∃ A' c', e = .returned (.tuple #[.slice A' l.length c', .bool true]) ∧ w'.ownsRow w.heap.size 36 1 (.slice A' l.length c') l.length (lst (ccell (l.map (sc y))) l.length) ∧ w.grownBy w' none := by
  have HS := Lib.hid (scales_impl A c B y l w hn hm hr hB)
  go_enter Try.func93, Try.ntmps93
  go_wp2_with fail
  refine (weights_c A l.length c w h1 hn).mono ?_
  rintro e w' ⟨rfl, rfl⟩
  go_wp2_with fail
  refine HS.out.mono ?_
  rintro e w1 ⟨A', c', rfl, ho, hg⟩
  go_wp2_with fail
  go_ret2
  exact ⟨A', c', rfl, ho, hg⟩

end Go.Proofs.Ytabbfpjngbiohaa.normP
