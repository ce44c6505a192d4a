/- The differences that no marks have, by both. -/
import Derived.Test.YtpmjheofjmdfeaaRows
import Derived.Test.YtpmjheofjmdfeaaSlc
import Derived.Test.YtpmjheofjmdfeaaSmall
import Derived.Test.YtpmjheofjmdfeaaListI
import Derived.Test.YtpmjheofjmdfeaaMarks
import Derived.Test.YtpmjheofjmdfeaaPut
import Derived.Test.YtpmjheofjmdfeaaDiff
import Derived.Test.YtpmjheofjmdfeaaHoles
import Derived.Test.YtpmjheofjmdfeaaISet
import Derived.WalkKit
import Derived.ProofKit
import Derived.OpenShut
import Derived.ShutString
import Derived.ChangeOld
import Derived.Below
import Derived.Lib.Hide
import Derived.BigQuiet
import Derived.Deep.QuietTactic
import Derived.WalkLawsBesides
import Derived.Outline
import Derived.Deep.QuietTactic
import Derived.BigQuiet
import Derived.Deep.LoopGhost
import Derived.Maps.OwnOps
import Derived.Maps.Views
import Derived.MapViews
namespace Go.Proofs.Ytpmjheofjmdfeaa.holes2
open Go.ChangeShapes Go.WideShapes Go.ChangeAt Go.RowKit
open Go.ChangeMaps (open_string shut_string)
set_option linter.unusedVariables false
open Go Go.RowKit Go.Maps
open Go.Proofs.Ytpmjheofjmdfeaa.slc Go.Proofs.Ytpmjheofjmdfeaa.small Go.Proofs.Ytpmjheofjmdfeaa.listI Go.Proofs.Ytpmjheofjmdfeaa.marks Go.Proofs.Ytpmjheofjmdfeaa.put Go.Proofs.Ytpmjheofjmdfeaa.diff Go.Proofs.Ytpmjheofjmdfeaa.holes Go.Proofs.Ytpmjheofjmdfeaa.iSet

/-- The answer's list. -/
def hR (xs : List Int) : List Int := if mB xs then H xs else []
theorem hR_len (xs : List Int) : (hR xs).length ≤ 4096 := by
  unfold hR
  split
  · rename_i h
    have t := top_bd h
    have := hl_len (D xs) (top xs).toNat
    unfold H
    omega
  · exact Nat.zero_le _
theorem hR_yes {xs : List Int} (h : mB xs = true) : hR xs = H xs := by unfold hR; rw [if_pos h]
theorem hR_no {xs : List Int} (h : mB xs = false) : hR xs = [] := by unfold hR; rw [h]; rfl
theorem own_none (w : World) (t : TypeId) (xs : List Int) (h : xs = []) : w.ownsRow w.heap.size t 1 (.slice none xs.length 0) xs.length (ints xs) := by
  subst h
  exact World.ownsRow_nil _ _ _ _
/-- A function answers so. -/
def Gvs (F : Nat) (xs ys : List Int) (ok : Bool) : Prop :=
  ∀ (A : Option Addr) (c B : Nat) (w : World), xs.length ≤ c → c ≤ maxLen → Rd w B A xs.length (fun j => (ints xs).getD j undef) → B ≤ w.heap.size →
    Calls Try.prog F #[.slice A xs.length c] w fun e w' => ∃ A' c', e = .returned (.tuple #[.slice A' ys.length c', .bool ok]) ∧ w'.ownsRow w.heap.size 2 1 (.slice A' ys.length c') ys.length (ints ys) ∧ w.grownBy w' none

set_option maxHeartbeats 400000 in
set_option maxRecDepth 100000 in
theorem marks_spec : True := trivial

set_option maxHeartbeats 400000 in
set_option maxRecDepth 100000 in
theorem spec_c : True := trivial

set_option maxHeartbeats 1000000 in
set_option maxRecDepth 100000 in
theorem impl_c (xs : List Int) : Gvs 18 xs (hR xs) (mB xs) := by
  intro A c B w hc hcm hr hB
  unfold maxLen at hcm
  obtain ⟨i0, hi0, hz0, hz1, hz2⟩ := info_parts info64
  by_cases hv : mB xs = true
  · obtain ⟨t1, t2⟩ := top_bd hv
    have hl1 := (mB_yes hv).1
    have hl16 := (mB_yes hv).2.1
    have e4 : top xs = xs[xs.length - 1] - xs[0] := by simp [top, List.getD, show xs.length - 1 < xs.length by omega, show 0 < xs.length by omega]
    have hb0 := (mB_yes hv).2.2.1 xs[0] (List.getElem_mem (by omega))
    have hb1 := (mB_yes hv).2.2.1 xs[xs.length - 1] (List.getElem_mem (by omega))
    have hy := hR_yes hv
    have HY := Lib.hid hy
    have HV := Lib.hid hv
    have HE := Lib.hid e4
    clear hy hv e4
    go_enter Try.func18, Try.ntmps18
    go_wp2_with fail
    refine (are_impl _ _ _ _ _ (by omega) hr).mono ?_
    rintro e w1 ⟨rfl, rfl⟩
    rw [HV.out]
    go_wp2_with fail
    refine (set_impl _ _ _ _ _ HV.out hc hcm hr hB).mono ?_
    rintro e w2 ⟨b, n, rfl, hset, hn, hg2⟩
    have R2 := hr.kept0 hg2 hB
    obtain ⟨ad, rfl, _, hlast⟩ := R2.at_ (show xs.length - 1 < xs.length by omega)
    obtain ⟨ad', e, _, hfirst⟩ := R2.at_ (show 0 < xs.length by omega)
    injection e with e
    subst e
    rw [ints_getD xs _ (by omega)] at hlast hfirst
    rw [show ad.add 0 = ad from rfl] at hfirst
    have n0 : 0 < xs.length := by omega
    have z0 : (0 : Int) < xs.length := by omega
    have z1 : (0 : Int) ≤ (xs.length : Int) - 1 := by omega
    have z2 : (xs.length : Int) - 1 < xs.length := by omega
    have z3 : ((xs.length : Int) - 1).toNat = xs.length - 1 := by omega
    have z4 : IntKind.i64.wrap ((xs.length : Int) - 1) = (xs.length : Int) - 1 := IntWalk.i64_in _ (by omega)
    have z5 : IntKind.i64.wrap (xs[xs.length - 1] - xs[0]) = top xs := by rw [HE.out]; exact IntWalk.i64_in _ (by omega)
    go_wp2_with fail
    go_quiet (fail)
    clear z3 z4 z5
    have hset3 : ISet (w2.drewN nq) b n (pd xs xs.length 0) := hset.kept (gb_drewN w2 nq none)
    have hg3 : w.grownBy (w2.drewN nq) none := hg2.trans (gb_drewN w2 nq none)
    clear hset hg2 hlast hfirst
    revert hset3 hg3
    generalize w2.drewN nq = w3
    intro hset hg3
    go_wp2_with fail
    go_loopw [5, 22] (fun v i wr => ∃ k : Nat, (k : Int) ≤ top xs ∧ i = .int .i64 k ∧ wr.ownsRow w3.heap.size 2 1 v (hl (D xs) k).length (ints (hl (D xs) k)) ∧ w3.grownBy wr none) (fun _ i _ => (top xs - intOf i).toNat)
    case atStart => exact ⟨0, by omega, rfl, World.ownsRow_nil _ _ _ _, World.grownBy.refl _ _⟩
    case round =>
      obtain ⟨k, hk, rfl, hown, hg⟩ := hrel
      have hhl := hl_len (D xs) k
      by_cases hlt : (k : Int) < top xs
      · have hrun := (hset.kept hg).lookup (k : Int) (WalkArith.wf_i64 (by omega))
        by_cases hin : (k : Int) ∈ pd xs xs.length 0
        · rw [decide_eq_true hin] at hrun
          have hh := hl_in ((dl_mem xs _ _ _).2 hin)
          have HH := Lib.hid hh
          clear hh hin
          go_wp2_with fail
          go_roundw
          case rel => exact ⟨k + 1, by omega, by go_num, by rw [show hl (D xs) (k + 1) = hl (D xs) k from HH.out]; exact hown, hg⟩
          case measure => simp [intOf]; omega
        · rw [decide_eq_false hin] at hrun
          have hh := hl_out (fun h => hin ((dl_mem xs _ _ _).1 h))
          have HH := Lib.hid hh
          have hbs := Nat.le_trans hg.size (show wr.heap.size ≤ (wr.alloc (.cells #[.int .i64 (k : Int)] 2)).heap.size by simp)
          clear hh hin
          go_wp2_with (at_builtin; refine wpList_append_own _ rfl _ _ 24 rfl w3.heap.size 2 i0 (.int .i64 0) 1 8 Try.underlying24 hi0 hz0 hz1 hz2 rfl (by decide) _ _ _ rfl (hown.alloc _) ⟨wr.heap.size, 0, none⟩ 1 1 [.int .i64 (k : Int)] rfl rfl (cell_one_new _ _ _) (int_one _ _) (by unfold maxLen; omega) (by omega) hbs ?_; intro v' w5 hown' hgrow _)
          go_roundw
          case rel => exact ⟨k + 1, by omega, by go_num, by rw [show hl (D xs) (k + 1) = hl (D xs) k ++ [(k : Int)] from HH.out, List.length_append, ← ints_snoc]; exact hown', gb_own (hg.trans (World.grownBy_alloc _ _ _)) (hown.alloc _) (Nat.le_refl _) hgrow⟩
          case measure => simp [intOf]; omega
      · have hkt : (top xs).toNat = k := by omega
        have hH : hl (D xs) k = H xs := by unfold H; rw [hkt]
        rw [hH] at hown
        have hge : ¬ (k : Int) < top xs := hlt
        obtain ⟨A', c', rfl⟩ := own_form hown
        clear hkt hH hhl
        go_wp2_with fail
        go_ret2
        exact ⟨A', c', by rw [HY.out, HV.out]; rfl, by rw [HY.out]; exact own_mono hown hg3.size, hg3.trans hg⟩
  · have hv' : mB xs = false := by simpa using hv
    clear hv
    have hy := hR_no hv'
    have HY := Lib.hid hy
    have HV := Lib.hid hv'
    clear hy hv'
    go_enter Try.func18, Try.ntmps18
    go_wp2_with fail
    refine (are_impl _ _ _ _ _ (by omega) hr).mono ?_
    rintro e w1 ⟨rfl, rfl⟩
    rw [HV.out]
    go_wp2_with fail
    go_ret2
    exact ⟨none, 0, by rw [HY.out, HV.out]; rfl, own_none w _ _ HY.out, World.grownBy.refl _ _⟩

end Go.Proofs.Ytpmjheofjmdfeaa.holes2
