/- Polynomials of zeros, by the program. -/
import Derived.Test.YtdanlghaiekeaaaRows
import Derived.Test.YtdanlghaiekeaaaSlc
import Derived.Test.YtdanlghaiekeaaaSmall
import Derived.Test.YtdanlghaiekeaaaFloats
import Derived.Test.YtdanlghaiekeaaaRound
import Derived.Test.YtdanlghaiekeaaaValues
import Derived.Test.YtdanlghaiekeaaaConv
import Derived.Test.YtdanlghaiekeaaaFWalk
import Derived.Test.YtdanlghaiekeaaaFinWalk
import Derived.Test.YtdanlghaiekeaaaFloat2
import Derived.Test.YtdanlghaiekeaaaFloat3
import Derived.Test.YtdanlghaiekeaaaPhase
import Derived.Test.YtdanlghaiekeaaaSine
import Derived.Test.YtdanlghaiekeaaaPhasor
import Derived.Test.YtdanlghaiekeaaaListC
import Derived.Test.YtdanlghaiekeaaaSteerNum
import Derived.Test.YtdanlghaiekeaaaSineIn
import Derived.Test.YtdanlghaiekeaaaPolyNum
import Derived.Test.YtdanlghaiekeaaaPolyW
import Derived.Test.YtdanlghaiekeaaaPoly1
import Derived.Test.YtdanlghaiekeaaaPoly2
import Derived.Test.YtdanlghaiekeaaaConcatC
import Derived.Test.YtdanlghaiekeaaaPolyA
import Derived.Test.YtdanlghaiekeaaaPolyB
import Derived.WalkKit
import Derived.ProofKit
import Derived.OpenShut
import Derived.ShutString
import Derived.ChangeOld
import Derived.Below
import Derived.Lib.Hide
import Derived.BigQuiet
import Derived.Deep.QuietTactic
import Derived.WalkLawsBesides
import Derived.Outline
import Derived.Deep.LoopGhost
import Derived.Deep.QuietTactic
import Derived.BigQuiet
import Derived.Deep.RegionHeld3
import Derived.Laws.ComplexArith
namespace Go.Proofs.Ytdanlghaiekeaaa.polyC
open Go.ChangeShapes Go.WideShapes Go.ChangeAt Go.RowKit
open Go.ChangeMaps (open_string shut_string)
set_option linter.unusedVariables false
open Go Ieee Go.RowKit
open Go.Proofs.Ytdanlghaiekeaaa.slc Go.Proofs.Ytdanlghaiekeaaa.small Go.Proofs.Ytdanlghaiekeaaa.floats Go.Proofs.Ytdanlghaiekeaaa.round Go.Proofs.Ytdanlghaiekeaaa.values Go.Proofs.Ytdanlghaiekeaaa.conv Go.Proofs.Ytdanlghaiekeaaa.fWalk Go.Proofs.Ytdanlghaiekeaaa.phase Go.Proofs.Ytdanlghaiekeaaa.sine Go.Proofs.Ytdanlghaiekeaaa.phasor Go.Proofs.Ytdanlghaiekeaaa.listC Go.Proofs.Ytdanlghaiekeaaa.sineIn Go.Proofs.Ytdanlghaiekeaaa.polyNum Go.Proofs.Ytdanlghaiekeaaa.polyW Go.Proofs.Ytdanlghaiekeaaa.poly1 Go.Proofs.Ytdanlghaiekeaaa.poly2 Go.Proofs.Ytdanlghaiekeaaa.concatC Go.Proofs.Ytdanlghaiekeaaa.polyA Go.Proofs.Ytdanlghaiekeaaa.polyB

attribute [local go_sem] run_store_complex
set_option maxHeartbeats 2000000 in
set_option maxRecDepth 100000 in
theorem poly_impl (A : Option Addr) (c B : Nat) (zs : List (Nat × Nat)) (w : World) (hn : zs.length ≤ 15) (hz : ∀ k, k < zs.length → Cb (zs.getD k (0, 0)) 5) (hr : Rd w B A zs.length (ccell zs)) (hB : B ≤ w.heap.size) :
    Calls Try.prog 17 #[.slice A zs.length c] w fun e w' => ∃ A' c', e = .returned (.tuple #[.slice A' (zs.length + 1) c', .bool true]) ∧ w'.ownsRow w.heap.size 30 1 (.slice A' (zs.length + 1) c') (zs.length + 1) (lst (ccell (pol zs)) (zs.length + 1)) ∧ w.grownBy w' none := by
  have HP := Lib.hid (pol_in zs hz hn)
  have HZ := Lib.hid hz
  have hn' : (zs.length : Int) ≤ 15 := by omega
  clear hz
  go_enter Try.func17, Try.ntmps17
  go_wp2_with fail
  go_loopw [4, 13] (fun v i wr => ∃ k : Nat, k ≤ zs.length ∧ i = .int .i64 k ∧ wr.ownsRow w.heap.size 30 1 v (k + 1) (lst (ccell (pol (zs.take k))) (k + 1)) ∧ w.grownBy wr none) (fun _ i _ => zs.length - (intOf i).toNat)
  case atStart => exact ⟨0, Nat.zero_le _, rfl, World.ownsRow_lit w #[.complex .f32 1065353216 0] 1 (Nat.le_refl _) (by decide) rfl, World.grownBy_alloc _ _ _⟩
  case round =>
    obtain ⟨k, hk, rfl, hown, hg⟩ := hrel
    by_cases hlt : k < zs.length
    · have hkl : (zs.take k).length = k := by simp; omega
      have hpl : (pol (zs.take k)).length = k + 1 := by rw [pol_len1, hkl]
      have hnext : zs.take (k + 1) = zs.take k ++ [zs.getD k (0, 0)] := by
        rw [List.take_succ_eq_append_getElem hlt]
        simp [List.getD, hlt]
      have hpn : pol (zs.take (k + 1)) = nx (pol (zs.take k)) (zs.getD k (0, 0)) := by rw [hnext, pol_snoc]
      have hb := HP.out k hk
      have hzb := HZ.out k hlt
      obtain ⟨ad, rfl, _, hc⟩ := (hr.kept0 hg hB).at_ hlt
      obtain ⟨g, cap, rfl, hgb, _⟩ := hown.form (by omega)
      have hR := Rd.of_lst hown (Nat.mul_one _).symm
      have hwz := wz_impl ⟨g, 0, none⟩ cap wr.heap.size (7 * k) (pol (zs.take k)) (zs.getD k (0, 0)) wr (by omega) hb hzb (by omega) (by rw [hpl]; exact hR) (Nat.le_refl _)
      rw [hpl] at hwz
      have HW := Lib.hid hwz
      have HPN := Lib.hid hpn
      unfold ccell at hc
      clear hkl hpl hnext hpn hb hzb hwz hR
      generalize zs.getD k (0, 0) = z at *
      have k0 : (0 : Int) ≤ k := by omega
      have k1 : (k : Int) < zs.length := by omega
      go_wp2_with fail
      refine HW.out.mono ?_
      rintro e w5 ⟨A5, c5, rfl, ho5, hg5⟩
      rw [← HPN.out] at ho5
      have ho5' := own_mono ho5 hg.size
      have g5 := hg.trans hg5
      have HO := Lib.hid ho5'
      have HG := Lib.hid g5
      clear ho5 ho5' g5 hg5 hown hg
      go_wp2_with fail
      go_roundw
      case rel => exact ⟨k + 1, by omega, by go_num, HO.out, HG.out⟩
      case measure => simp [intOf]; omega
    · obtain rfl : k = zs.length := by omega
      rw [List.take_length] at hown
      obtain ⟨A', c', rfl⟩ := own_form hown
      go_wp2_with fail
      go_ret2
      exact ⟨_, _, rfl, hown, hg⟩

end Go.Proofs.Ytdanlghaiekeaaa.polyC
