/- Polynomials of zeros, by the model. -/
import Derived.Test.YtjmgohlepglkoaaRows
import Derived.Test.YtjmgohlepglkoaaSlc
import Derived.Test.YtjmgohlepglkoaaSmall
import Derived.Test.YtjmgohlepglkoaaFloats
import Derived.Test.YtjmgohlepglkoaaRound
import Derived.Test.YtjmgohlepglkoaaValues
import Derived.Test.YtjmgohlepglkoaaConv
import Derived.Test.YtjmgohlepglkoaaFWalk
import Derived.Test.YtjmgohlepglkoaaFinWalk
import Derived.Test.YtjmgohlepglkoaaFloat2
import Derived.Test.YtjmgohlepglkoaaFloat3
import Derived.Test.YtjmgohlepglkoaaPhase
import Derived.Test.YtjmgohlepglkoaaSine
import Derived.Test.YtjmgohlepglkoaaPhasor
import Derived.Test.YtjmgohlepglkoaaListC
import Derived.Test.YtjmgohlepglkoaaSteerNum
import Derived.Test.YtjmgohlepglkoaaSineIn
import Derived.Test.YtjmgohlepglkoaaPolyNum
import Derived.Test.YtjmgohlepglkoaaPolyW
import Derived.WalkKit
import Derived.ProofKit
import Derived.OpenShut
import Derived.ShutString
import Derived.ChangeOld
import Derived.Below
import Derived.Lib.Hide
import Derived.BigQuiet
import Derived.Deep.QuietTactic
import Derived.WalkLawsBesides
import Derived.Outline
import Derived.Deep.LoopGhost
import Derived.Deep.QuietTactic
import Derived.BigQuiet
import Derived.Deep.RegionHeld3
import Derived.StillTailTactics
import Derived.Laws.ComplexArith
namespace Go.Proofs.Ytjmgohlepglkoaa.poly1
open Go.ChangeShapes Go.WideShapes Go.ChangeAt Go.RowKit
open Go.ChangeMaps (open_string shut_string)
set_option linter.unusedVariables false
open Go Ieee Go.RowKit
open Go.Proofs.Ytjmgohlepglkoaa.slc Go.Proofs.Ytjmgohlepglkoaa.small Go.Proofs.Ytjmgohlepglkoaa.floats Go.Proofs.Ytjmgohlepglkoaa.round Go.Proofs.Ytjmgohlepglkoaa.values Go.Proofs.Ytjmgohlepglkoaa.conv Go.Proofs.Ytjmgohlepglkoaa.fWalk Go.Proofs.Ytjmgohlepglkoaa.phase Go.Proofs.Ytjmgohlepglkoaa.sine Go.Proofs.Ytjmgohlepglkoaa.phasor Go.Proofs.Ytjmgohlepglkoaa.listC Go.Proofs.Ytjmgohlepglkoaa.sineIn Go.Proofs.Ytjmgohlepglkoaa.polyNum Go.Proofs.Ytjmgohlepglkoaa.polyW

theorem csub {a b c d p q : Nat} (h1 : floatBits .sub .f32 a c = some p) (h2 : floatBits .sub .f32 b d = some q) (w : World) (t : TypeId) : (binOp .sub t (.complex .f32 a b) (.complex .f32 c d)).run Try.prog w = .ok (.complex .f32 p q) w :=
  run_complex_sum w .sub (.inr rfl) t .f32 a b c d p q (by simp [cSumBits, h1, h2])
theorem cpx_one (x y : Nat) : ∀ u ∈ [Value.complex .f32 x y], u.oneCell' = true := by
  intro u hu
  have : u = .complex .f32 x y := by simpa using hu
  subst this
  rfl
theorem app_zero (l : List (Nat × Nat)) (n : Nat) (h : l.length = n) : lst (ccell l) n ++ [.complex .f32 0 0] = lst (ccell l) (n + 1) := by
  have e : ccell l n = .complex .f32 0 0 := by unfold ccell; simp [List.getD, h]
  rw [← e]
  simp [lst, List.range_succ]
/-- The numbers from j on are those of the next polynomial. -/
def dn (l : List (Nat × Nat)) (z : Nat × Nat) (j t : Nat) : Value := if j ≤ t then ccell (nx l z) t else ccell l t
theorem dn_all (l : List (Nat × Nat)) (z : Nat × Nat) (n : Nat) : lst (dn l z n) n = lst (ccell l) n := lst_congr fun t ht => by unfold dn; rw [if_neg (by omega)]
theorem dn_none (l : List (Nat × Nat)) (z : Nat × Nat) (n : Nat) : lst (dn l z 0) n = lst (ccell (nx l z)) n := lst_congr fun t ht => by unfold dn; rw [if_pos (Nat.zero_le _)]
theorem dn_set (l : List (Nat × Nat)) (z : Nat × Nat) (n i : Nat) (h : i < n) : (lst (dn l z (i + 1)) n).set i (ccell (nx l z) i) = lst (dn l z i) n := by
  apply List.ext_getElem?
  intro t
  rw [List.getElem?_set]
  by_cases ht : i = t
  · subst ht
    simp [lst, dn, h]
  · rw [if_neg ht]
    by_cases hn : t < n
    · rw [lst_get _ _ _ hn, lst_get _ _ _ hn]
      unfold dn
      by_cases h1 : i + 1 ≤ t
      · rw [if_pos h1, if_pos (by omega)]
      · rw [if_neg h1, if_neg (by omega)]
    · simp [lst, hn]

attribute [local go_sem] run_store_complex
set_option maxHeartbeats 4000000 in
set_option maxRecDepth 100000 in
theorem poly_spec (A : Option Addr) (c B : Nat) (zs : List (Nat × Nat)) (w : World) (hn : zs.length ≤ 15) (hz : ∀ k, k < zs.length → Cb (zs.getD k (0, 0)) 5) (hr : Rd w B A zs.length (ccell zs)) (hB : B ≤ w.heap.size) :
    Calls Try.prog 65 #[.slice A zs.length c] w fun e w' => ∃ A' c', e = .returned (.slice A' (zs.length + 1) c') ∧ w'.ownsRow w.heap.size 70 1 (.slice A' (zs.length + 1) c') (zs.length + 1) (lst (ccell (pol zs)) (zs.length + 1)) ∧ w.grownBy w' none := by
  obtain ⟨i0, hi0, hz0, hz1, hz2⟩ := info_parts infoC
  have hpol := pol_in zs hz hn
  have HP := Lib.hid hpol
  have HZ := Lib.hid hz
  clear hpol hz
  go_enter Try.func65, Try.ntmps65
  go_wp2_with fail
  go_loopw [3, 4] (fun v i wr => ∃ k : Nat, k ≤ zs.length ∧ i = .int .i64 k ∧ wr.ownsRow w.heap.size 70 1 v (k + 1) (lst (ccell (pol (zs.take k))) (k + 1)) ∧ w.grownBy wr none) (fun _ i _ => zs.length - (intOf i).toNat)
  case atStart => exact ⟨0, Nat.zero_le _, rfl, World.ownsRow_lit w #[.complex .f32 1065353216 0] 1 (Nat.le_refl _) (by decide) rfl, World.grownBy_alloc _ _ _⟩
  case round =>
    obtain ⟨k, hk, rfl, hown, hg⟩ := hrel
    by_cases hlt : k < zs.length
    · have hkl : (zs.take k).length = k := by simp; omega
      have hpl : (pol (zs.take k)).length = k + 1 := by rw [pol_len1, hkl]
      have hnext : zs.take (k + 1) = zs.take k ++ [zs.getD k (0, 0)] := by
        rw [List.take_succ_eq_append_getElem hlt]
        simp [List.getD, hlt]
      have hpn : pol (zs.take (k + 1)) = nx (pol (zs.take k)) (zs.getD k (0, 0)) := by rw [hnext, pol_snoc]
      have hb := HP.out k hk
      have hzb := HZ.out k hlt
      obtain ⟨ad, rfl, hab, hc0⟩ := (hr.kept0 hg hB).at_ hlt
      have HPN := Lib.hid hpn
      have HBB := Lib.hid hb
      have HZB := Lib.hid hzb
      have HPL := Lib.hid hpl
      have happ := app_zero (pol (zs.take k)) (k + 1) hpl
      have HAP := Lib.hid happ
      have hbs := Nat.le_trans hg.size (show wr.heap.size ≤ (wr.alloc (.cells #[.complex .f32 0 0] 70)).heap.size by simp)
      clear hkl hpl hnext hpn hb hzb happ hc0
      have hk16 : k ≤ 14 := by omega
      go_wp2_with (at_builtin; refine wpList_append_own _ rfl _ _ 32 rfl w.heap.size 70 i0 (.complex .f32 0 0) 1 8 Try.underlying32 hi0 hz0 hz1 hz2 rfl (by decide) _ _ _ rfl (hown.alloc _) ⟨wr.heap.size, 0, none⟩ 1 1 [.complex .f32 0 0] rfl rfl (cell_one_new _ _ _) (cpx_one _ _) (by unfold maxLen; omega) (by omega) hbs ?_; intro v' w4 hown' hgrow _; obtain ⟨g, cap, rfl, _, _⟩ := hown'.form (by omega))
      have g4 := gb_own (hg.trans (World.grownBy_alloc _ _ _)) (hown.alloc _) (Nat.le_refl _) hgrow
      rw [HAP.out] at hown'
      have hgb := (own_base hown' g rfl).1
      clear hgrow hown hg
      generalize hz : zs.getD k (0, 0) = z at *
      generalize pol (zs.take k) = l at *
      have hown2 : w4.ownsRow w.heap.size 70 1 (.slice (some ⟨g, 0, none⟩) (k + 2) cap) (k + 2) (lst (dn l z (k + 2)) (k + 2)) := by rw [dn_all]; exact hown'
      clear hown'
      have hzc : ∀ wq : World, w.grownBy wq none → wq.cell? (ad.add k) = some (.complex .f32 z.1 z.2) := fun wq h => by
        obtain ⟨ad', e, _, hc⟩ := (hr.kept0 h hB).at_ hlt
        injection e with e; subst e
        rw [hc]; unfold ccell; rw [hz]
      have HZC := Lib.hid hzc
      clear hzc hz
      have hk0 : (0 : Int) ≤ k := by omega
      have hk1 : (k : Int) < zs.length := by omega
      go_loopw [5] (fun i wq => ∃ j : Nat, j ≤ k + 2 ∧ i = .int .i64 ((j : Int) - 1) ∧ wq.ownsRow w.heap.size 70 1 (.slice (some ⟨g, 0, none⟩) (k + 2) cap) (k + 2) (lst (dn l z j) (k + 2)) ∧ w.grownBy wq none) (fun i _ => (intOf i + 1).toNat)
      case atStart => exact ⟨k + 2, Nat.le_refl _, congrArg (Value.int .i64) (by omega), hown2, g4⟩
      case round =>
        obtain ⟨j, hj, rfl, hown, hg⟩ := hrel
        clear hown2 g4
        by_cases hj0 : j = 0
        · subst hj0
          rw [dn_none] at hown
          go_wp2_with fail
          go_roundw
          case rel => exact ⟨k + 1, by omega, by go_num, by rw [HPN.out]; exact hown, hg⟩
          case measure => simp [intOf]; omega
        · obtain ⟨i, rfl⟩ : ∃ i, j = i + 1 := ⟨j - 1, by omega⟩
          have hic : ((i + 1 : Nat) : Int) - 1 = (i : Int) := by omega
          rw [hic]
          have hi2 : i < k + 2 := by omega
          have hdi : dn l z (i + 1) i = .complex .f32 (l.getD i (0, 0)).1 (l.getD i (0, 0)).2 := by unfold dn; rw [if_neg (by omega)]; rfl
          have hcell := hown.cellAt i (by omega)
          rw [lst_get _ _ _ hi2, hdi] at hcell
          have hz5 := HZC.out _ hg
          have h7 : 5 + 7 * k + 1 ≤ 127 := by omega
          obtain ⟨mo, _⟩ := mul_ok HZB.out (HBB.out i) h7
          have mq := fun w => (mul_spec mo w).mono fun e w' h => (⟨h.1, h.2.symm⟩ : _ ∧ w' = w)
          rw [mulw_comm] at mq
          have h8 : 7 * k + 7 ≤ 127 := by omega
          obtain ⟨_, q1, q2, _⟩ := nxk_ok HBB.out HZB.out h8 i
          have hnx : ccell (nx l z) i = .complex .f32 (nxk l z i).1 (nxk l z i).2 := by
            unfold ccell
            rw [nx_at l z i (by have := HPL.out; omega)]
          have MQ := Lib.hid mq
          have i0' : (0 : Int) ≤ i := by omega
          have i1' : (i : Int) < (k : Int) + 1 + 1 := by omega
          have i2' : (0 : Int) < (k : Int) + 1 + 1 := by omega
          clear mo mq h7 h8
          by_cases hi0' : i = 0
          · rw [if_pos hi0'] at q1 q2
            dsimp only at q1 q2
            have hc := csub q1 q2
            have HC := hc
            clear q1 q2 hc
            generalize l.getD i (0, 0) = u at *
            generalize mulw u z = m at *
            generalize nxk l z i = o at *
            subst hi0'
            go_wp2_with fail
            go_still_tail 14, (by kernel_rfl)
            still_call (MQ.out _)
            repeat still_step
            refine wpStill_nil ?_
            change wpList _ _ _ _ _ wr.drew
            have hd := hown.drew
            have gd : w.grownBy wr.drew none := ⟨hg.os, hg.tape, hg.output, hg.size, hg.block⟩
            clear hown hg hcell hz5
            generalize wr.drew = wd at hd gd ⊢
            have hcell := hd.cellAt 0 (by omega)
            rw [lst_get _ _ _ (by omega), hdi] at hcell
            have hf := hd.frozenAt 0
            obtain ⟨hs1, hs2⟩ := hd.stored 0 (.complex .f32 o.1 o.2)
            rw [← hnx, dn_set _ _ _ _ (by omega), hnx] at hs1
            have hs2' := gb_new gd hs2 (by intro g' e; injection e with e; omega)
            have HS := Lib.hid hs1
            have HG := Lib.hid hs2'
            clear hs1 hs2 hs2' hd gd
            go_wp2
            go_roundw
            case rel => exact ⟨0, by omega, rfl, HS.out, HG.out⟩
            case measure => simp [intOf]
          · rw [if_neg hi0'] at q1 q2
            have hc := csub q1 q2
            have HC := hc
            have hz' : (0 : Int) < i := by omega
            have hdp : dn l z (i + 1) (i - 1) = .complex .f32 (l.getD (i - 1) (0, 0)).1 (l.getD (i - 1) (0, 0)).2 := by unfold dn; rw [if_neg (by omega)]; rfl
            have hcp := hown.cellAt (i - 1) (by omega)
            rw [lst_get _ _ _ (by omega), hdp] at hcp
            have htn : ((i : Int) - 1).toNat = i - 1 := by omega
            have ht0 : (0 : Int) ≤ (i : Int) - 1 := by omega
            have ht1 : (i : Int) - 1 < (k : Int) + 1 + 1 := by omega
            clear q1 q2 hc
            generalize l.getD i (0, 0) = u at *
            generalize l.getD (i - 1) (0, 0) = pr at *
            generalize mulw u z = m at *
            generalize nxk l z i = o at *
            go_wp2_with fail
            go_still_tail 14, (by kernel_rfl)
            still_call (MQ.out _)
            repeat still_step
            refine wpStill_nil ?_
            change wpList _ _ _ _ _ wr.drew
            have hd := hown.drew
            have gd : w.grownBy wr.drew none := ⟨hg.os, hg.tape, hg.output, hg.size, hg.block⟩
            clear hown hg hcell hz5 hcp
            generalize wr.drew = wd at hd gd ⊢
            have hcell := hd.cellAt i (by omega)
            rw [lst_get _ _ _ (by omega), hdi] at hcell
            have hf := hd.frozenAt i
            obtain ⟨hs1, hs2⟩ := hd.stored i (.complex .f32 o.1 o.2)
            rw [← hnx, dn_set _ _ _ _ (by omega), hnx] at hs1
            have hs2' := gb_new gd hs2 (by intro g' e; injection e with e; omega)
            have HS := Lib.hid hs1
            have HG := Lib.hid hs2'
            clear hs1 hs2 hs2' hd gd
            go_wp2
            go_roundw
            case rel => exact ⟨i, by omega, rfl, HS.out, HG.out⟩
            case measure => simp [intOf]
    · obtain rfl : k = zs.length := by omega
      rw [List.take_length] at hown
      obtain ⟨A', c', rfl⟩ := own_form hown
      go_wp2_with fail
      go_ret
      exact ⟨_, _, rfl, hown, hg⟩

end Go.Proofs.Ytjmgohlepglkoaa.poly1
