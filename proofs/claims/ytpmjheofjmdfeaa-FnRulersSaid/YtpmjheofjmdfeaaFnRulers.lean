/- Differences and holes are all numbers up to the greatest difference, and no drawn ruler or marks without holes are shorter or fewer than those that are found: the law answers true at every input. No condition. -/
import Derived.Test.YtpmjheofjmdfeaaRows
import Derived.Test.YtpmjheofjmdfeaaSlc
import Derived.Test.YtpmjheofjmdfeaaSmall
import Derived.Test.YtpmjheofjmdfeaaListI
import Derived.Test.YtpmjheofjmdfeaaOpens
import Derived.Test.YtpmjheofjmdfeaaR8
import Derived.Test.YtpmjheofjmdfeaaMarks
import Derived.Test.YtpmjheofjmdfeaaPut
import Derived.Test.YtpmjheofjmdfeaaDiff
import Derived.Test.YtpmjheofjmdfeaaISet
import Derived.Test.YtpmjheofjmdfeaaISize
import Derived.Test.YtpmjheofjmdfeaaHoles
import Derived.Test.YtpmjheofjmdfeaaRuler
import Derived.Test.YtpmjheofjmdfeaaSearch
import Derived.Test.YtpmjheofjmdfeaaExt
import Derived.Test.YtpmjheofjmdfeaaRulN
import Derived.Test.YtpmjheofjmdfeaaShortR
import Derived.Test.YtpmjheofjmdfeaaLeastM
import Derived.Test.YtpmjheofjmdfeaaHoles2
import Derived.Test.YtpmjheofjmdfeaaFewN
import Derived.Test.YtpmjheofjmdfeaaSpecRul
import Derived.Test.YtpmjheofjmdfeaaShortA
import Derived.Test.YtpmjheofjmdfeaaFewA
import Derived.Test.YtpmjheofjmdfeaaKeys
import Derived.Test.YtpmjheofjmdfeaaDiffer
import Derived.Test.YtpmjheofjmdfeaaRulLaw
import Derived.WalkKit
import Derived.ProofKit
import Derived.OpenShut
import Derived.ShutString
import Derived.ChangeOld
import Derived.Below
import Derived.Lib.Hide
import Derived.BigQuiet
import Derived.Deep.QuietTactic
import Derived.WalkLawsBesides
import Derived.Outline
import Derived.RangeFuncBox
import Derived.Deep.LoopGhost
import Derived.Deep.RegionHeld3
import Derived.Deep.RegionWith
import Derived.Deep.QuietTactic
import Derived.BigQuiet
namespace Go.Proofs.Ytpmjheofjmdfeaa.fnRulers
open Go.ChangeShapes Go.WideShapes Go.ChangeAt Go.RowKit
open Go.ChangeMaps (open_string shut_string)
set_option linter.unusedVariables false
theorem own : ownKnob Try.prog.godebug = none := by kernel_rfl
theorem laidOut : laidOutB Try.prog = true := by kernel_rfl
open Go Go.RowKit
open Go.Proofs.Ytpmjheofjmdfeaa.slc Go.Proofs.Ytpmjheofjmdfeaa.small Go.Proofs.Ytpmjheofjmdfeaa.opens Go.Proofs.Ytpmjheofjmdfeaa.listI Go.Proofs.Ytpmjheofjmdfeaa.r8 Go.Proofs.Ytpmjheofjmdfeaa.marks Go.Proofs.Ytpmjheofjmdfeaa.diff Go.Proofs.Ytpmjheofjmdfeaa.holes Go.Proofs.Ytpmjheofjmdfeaa.holes2 Go.Proofs.Ytpmjheofjmdfeaa.ruler Go.Proofs.Ytpmjheofjmdfeaa.search Go.Proofs.Ytpmjheofjmdfeaa.ext Go.Proofs.Ytpmjheofjmdfeaa.rulN Go.Proofs.Ytpmjheofjmdfeaa.fewA Go.Proofs.Ytpmjheofjmdfeaa.shortA Go.Proofs.Ytpmjheofjmdfeaa.rulLaw

/-- append, told apart: the walk is not to lay it open. -/
def appS (ats : Array TypeId) (ty : TypeId) (args : Array Value) : Sem Value := Builtin.append_ ats ty args
theorem app_stop (ats : Array TypeId) (ty : TypeId) (args : Array Value) : Builtin.append_ ats ty args = appS ats ty args := rfl
theorem end_get {ms : List Int} {n : Nat} (h : ms.length = n + 1) : (ints ms)[n]? = some (.int .i64 (endOf ms)) := by
  have := end_cell (ms := ms) (by omega)
  rwa [h] at this
theorem ints_at (l : List Int) (d : Nat) (h : d < l.length) : (ints l)[d]? = some (.int .i64 (l.getD d 0)) := by
  simp [ints, List.getD, h]
theorem ints_set (l : List Int) (d : Nat) (x : Int) : ints (l.set d x) = (ints l).set d (.int .i64 x) := by
  simp [ints, List.map_set]
theorem row_slice {W : World} {base : Nat} {e : TypeId} {size : Nat} {v : Value} {k : Nat} {xs : List Value} (h : W.ownsRow base e size v k xs) : ∃ A c, v = .slice A k c := by
  rcases h.2 with ⟨rfl, rfl⟩ | ⟨g, cap, _, rfl, _⟩
  · exact ⟨_, _, rfl⟩
  · exact ⟨_, _, rfl⟩
/-- One number more. -/
theorem app_i {w W w5 : World} {g cap k : Nat} {xs : List Int} (x : Int) (i0 : TypeInfo) (hi0 : Try.prog.info? 2 = some i0) (hz0 : i0.zero = some (.int .i64 0)) (hz1 : i0.size = 1) (hz2 : i0.bytes = 8)
    (h0 : w.grownBy W none) (h2 : W.ownsRow w.heap.size 2 1 (.slice (some ⟨g, 0, none⟩) k cap) k (ints xs)) (hk : k < 100000) (gd : W.grownBy w5 none) :
    ∃ A6 c6 w6, (appS #[24, 24] 24 #[.slice (some ⟨g, 0, none⟩) k cap, .slice (some ⟨w5.heap.size, 0, none⟩) 1 1]).run Try.prog (w5.alloc (.cells #[.int .i64 x] 2)) = .ok (.slice A6 (k + 1) c6) w6 ∧
      w6.ownsRow w.heap.size 2 1 (.slice A6 (k + 1) c6) (k + 1) (ints (xs ++ [x])) ∧ w.grownBy w6 none := by
  have b2 := own_kept0 h2 gd
  have hs5 := Nat.le_trans h0.size gd.size
  obtain ⟨v6, w6, hrun, r1, r2, _⟩ := run_append_own (P := Try.prog) (w5.alloc (.cells #[.int .i64 x] 2)) w.heap.size 24 24 2 i0 (.int .i64 0) 1 8 Try.underlying24 hi0 hz0 hz1 hz2 rfl (by decide) _ _ _ (b2.alloc _) ⟨w5.heap.size, 0, none⟩ 1 1 [.int .i64 x] rfl (cell_one_new _ _ _) (by simp [Value.oneCell']) (by unfold maxLen; omega) (by omega) (by simp; omega)
  obtain ⟨A6, c6, rfl⟩ := row_slice r1
  rw [slc.ints_snoc] at r1
  exact ⟨A6, c6, w6, hrun, r1, gb_own ((h0.trans gd).trans (World.grownBy_alloc _ _ _)) (b2.alloc _) (Nat.le_refl _) r2⟩
attribute [local go_sem ↓] app_stop
set_option maxHeartbeats 8000000 in
set_option maxRecDepth 100000 in
theorem law (A A' : Option Addr) (c d : Nat) (z y : List Int) (w : World) (hz : Byt z) (hm : z.length ≤ 9223372036854775807) (hy : y.length ≤ 9223372036854775807) (hr : Rd w w.heap.size A z.length (bt z)) :
    Calls Try.prog 3 #[.slice A z.length c, .slice A' y.length d] w fun e w' => e = .returned (.bool true) ∧ Below w.heap.size w w' := by
  by_cases hl : z.length ≤ 48 ∧ y.length ≤ 48
  · obtain ⟨i0, hi0, hz0, hz1, hz2⟩ := info_parts listI.info64
    obtain ⟨b1, b2⟩ := r8_bd hz 0 5 (by decide)
    have H1 := Lib.hid (fun (w2 : World) (g : w.grownBy w2 none) => r8_at A c w2.heap.size z 0 5 w2 (by omega) (by decide) (by decide) hz ((hr.kept0 g (Nat.le_refl _)).mono g.size))
    have H2 := Lib.hid (fun (k : Nat) (w2 : World) (g : w.grownBy w2 none) => r8_at A c w2.heap.size z (k + 1) 4 w2 (by omega) (by decide) (by decide) hz ((hr.kept0 g (Nat.le_refl _)).mono g.size))
    have hf : ∀ k : Nat, 0 ≤ r8 z (k : Int) 4 ∧ r8 z (k : Int) 4 ≤ 3 := fun k => by have := r8_bd hz k 4 (by decide); omega
    obtain ⟨N, hN⟩ : ∃ N : Nat, r8 z 0 5 = (N : Int) := ⟨(r8 z 0 5).toNat, by omega⟩
    obtain ⟨F, hF⟩ : ∃ F : Nat → Int, (fun k : Nat => r8 z (k : Int) 4) = F := ⟨_, rfl⟩
    have hFk : ∀ k : Nat, r8 z ((k : Int) + 1) 4 = F (k + 1) := fun k => by rw [← hF]; rfl
    have hfb : ∀ k, 0 ≤ F k ∧ F k ≤ 3 := fun k => by rw [← hF]; exact hf k
    rw [show ((0 : Nat) : Int) = 0 from rfl, hN] at H1
    have hN4 : N ≤ 4 := by omega
    have HFK := Lib.hid hFk
    have HEN := Lib.hid (mk_end F hfb)
    have HLN := Lib.hid (mk_len F)
    have HSU := Lib.hid (fun k => show mk F (k + 1) = mk F k ++ [endOf (mk F k) + 1 + F (k + 1)] from rfl)
    have HFB := Lib.hid hfb
    have HM0 := Lib.hid (show ints (mk F 0) = [.int .i64 0] from rfl)
    have HGO := Lib.hid (mk_good F hfb N)
    have HZE := Lib.hid (mk_zero F N)
    clear hf hF hFk hfb b1 b2 hN
    generalize mk F = M at *
    go_enter Try.func3, Try.ntmps3
    go_wp2_with fail
    refine (long_no _ _ _ _ _ _ _ hl.1 hl.2).mono ?_
    rintro e w' ⟨rfl, rfl⟩
    go_wp2_with fail
    go_loopw [5, 6] (fun v i wr => ∃ k : Nat, k ≤ N ∧ i = .int .i64 k ∧ wr.ownsRow w.heap.size 2 1 v (k + 1) (ints (M k)) ∧ w.grownBy wr none) (fun _ i _ => N - (intOf i).toNat)
    case atStart =>
      refine ⟨0, Nat.zero_le _, rfl, ?_, World.grownBy_alloc _ _ _⟩
      rw [HM0.out]
      exact World.ownsRow_lit w #[.int .i64 0] 1 (Nat.le_refl _) (by decide) rfl
    case round =>
      obtain ⟨k, hk, rfl, hown, hg⟩ := hrel
      obtain ⟨g, cap, rfl⟩ := ownsRow_succ hown
      have HC1 := Lib.hid (H1.out wr hg)
      have hml := HLN.out k
      have hmb := HEN.out k
      by_cases hlt : k < N
      · have HC2 := Lib.hid (fun (w2 : World) (g : wr.grownBy w2 none) => show Calls Try.prog 16 #[.slice A z.length c, .int .i64 ((k + 1 : Nat) : Int), .int .i64 4] w2 (fun e w' => e = .returned (.int .i64 (r8 z ((k + 1 : Nat) : Int) 4)) ∧ w2.grownBy w' none) from (H2.out k w2 (hg.trans g)).mono (fun e w' h => ⟨h.1, h.2 ▸ World.grownBy.refl _ _⟩))
        rw [Int.natCast_add] at HC2
        rw [show ((1 : Nat) : Int) = 1 from rfl, HFK.out k] at HC2
        have hx := HFB.out (k + 1)
        have hce := hown.cellAt k (by omega)
        rw [end_get hml] at hce
        have k0 : (0 : Int) ≤ (k : Int) := by omega
        have hkN : (k : Int) < (N : Int) := by omega
        have k4 : (k : Int) ≤ 4 := by omega
        have k5 : (k : Int) < (k : Int) + 1 := by omega
        have k11 : IntKind.i64.wrap ((k : Int) + 1) = (k : Int) + 1 := by rw [IntKind.wrap_i64]; omega
        have kbig : k + 1 < 100000 := by omega
        have k8 : IntKind.i64.wrap (k : Int) = (k : Int) := by rw [IntKind.wrap_i64]; omega
        have hE0 := hmb.1
        have hE1 : endOf (M k) ≤ 16 := by omega
        have hx0 := hx.1
        have hx1 := hx.2
        have HSK := Lib.hid (HSU.out k)
        clear hmb hx
        generalize endOf (M k) = E at *
        generalize F (k + 1) = X at *
        have k9 : IntKind.i64.wrap (E + 1) = E + 1 := by rw [IntKind.wrap_i64]; omega
        have k10 : IntKind.i64.wrap (E + 1 + X) = E + 1 + X := by rw [IntKind.wrap_i64]; omega
        go_wp2_with fail
        refine HC1.out.mono ?_
        rintro e w' ⟨rfl, rfl⟩
        have HO := Lib.hid (And.intro hown hg)
        have HC3 := Lib.hid (HC2.out wr.drew (gb_drewN wr 1 none))
        clear hown HC2
        go_wp2_with fail
        go_region_with (go_at_call 16; refine HC3.out.mono ?_; rintro e w5 ⟨rfl, hg5⟩; have gd := (gb_drewN wr 1 none).trans hg5; have hce5 := gd.cell hce (by simp); obtain ⟨A6, c6, w6, hrun, z1, z2⟩ := app_i (E + 1 + X) i0 hi0 hz0 hz1 hz2 HO.out.2 HO.out.1 kbig gd; have ZZ := Lib.hid (And.intro z1 z2); clear z1 z2)
        all_goals
          go_wp2_with fail
          go_roundw
          case rel => exact ⟨k + 1, by clear k8 k9 k10 k11; omega, by go_num, by rw [HSK.out]; exact ZZ.out.1, ZZ.out.2⟩
          case measure => clear k8 k9 k10 k11; simp [intOf]; omega
      · have hNk : (N : Int) ≤ (k : Int) := by omega
        have hce := hown.cellAt k (by omega)
        rw [end_get hml] at hce
        have k0 : (0 : Int) ≤ (k : Int) := by omega
        go_wp2_with fail
        have hcap := own_le hown
        have hR0 : Rd wr wr.heap.size (some ⟨g, 0, none⟩) (k + 1) (fun j => (ints (M k)).getD j undef) := Rd.of_own hown (Nat.mul_one _).symm
        go_wp2_with fail
        refine HC1.out.mono ?_
        rintro e w' ⟨rfl, rfl⟩
        go_wp2_with fail
        have hNe : N = k := by omega
        rw [hNe] at HGO HZE
        have hg3 := HGO.out
        have hL0 := hmb.1
        have hL1 : endOf (M k) ≤ 16 := by omega
        have k4 : k + 1 ≤ 5 := by omega
        have hv := good_mB hg3 (by omega) (by omega)
        have htop := top_end HZE.out
        have HZ := Lib.hid HZE.out
        have HGW := Lib.hid hg
        clear HC1 H1 H2 HFK HEN HLN HSU HFB HM0 hNk hlt hNe hg hown hr hm hy hl HZE HGO hN4 hk
        generalize M k = ms at *
        clear hmb
        have hHL := both_len hv
        rw [htop] at hHL
        have HD1 := Lib.hid (fun (w2 : World) (g2 : wr.grownBy w2 none) => differ.impl_c ms (some ⟨g, 0, none⟩) cap w2.heap.size w2 (by rw [hml]; exact hcap.1) hcap.2 (by rw [hml]; exact (hR0.kept0 g2 (Nat.le_refl _)).mono g2.size) (Nat.le_refl _))
        have HH1 := Lib.hid (fun (w2 : World) (g2 : wr.grownBy w2 none) => holes2.impl_c ms (some ⟨g, 0, none⟩) cap w2.heap.size w2 (by rw [hml]; exact hcap.1) hcap.2 (by rw [hml]; exact (hR0.kept0 g2 (Nat.le_refl _)).mono g2.size) (Nat.le_refl _))
        have HI1 := Lib.hid (fun (w2 : World) (g2 : wr.grownBy w2 none) => ruimpl_c ms (some ⟨g, 0, none⟩) cap w2.heap.size w2 (by rw [hml]; exact hcap) (by rw [hml]; exact (hR0.kept0 g2 (Nat.le_refl _)).mono g2.size) (Nat.le_refl _))
        rw [ru_yes hv, hml] at HI1
        rw [differ.dR_yes hv, hv, hml] at HD1
        rw [hR_yes hv, hv, hml] at HH1
        rw [show dl ms (k + 1) 0 = D ms by unfold D; rw [hml]] at HD1
        have hDl : ((D ms).length : Int) ≤ 17 := by omega
        have hHl : ((H ms).length : Int) ≤ 17 := by omega
        have HMC := Lib.hid (fun (w2 : World) (g2 : wr.grownBy w2 none) (j : Nat) (hj : j < k + 1) => show w2.cell? ⟨g, j, none⟩ = some (.int .i64 (ms.getD j 0)) by
          obtain ⟨ad, e, _, h⟩ := (hR0.kept0 g2 (Nat.le_refl _)).at_ hj
          injection e with e
          subst e
          rw [slc.add_plain, Nat.zero_add, ints_getD _ _ (by omega)] at h
          rw [h]
          simp [List.getD, show j < ms.length by omega])
        have HMB := Lib.hid (fun (a b : Nat) (ha : a < k + 1) (hb : b < a) => show ∃ d : Nat, dif ms a b = (d : Int) ∧ ms.getD a 0 - ms.getD b 0 = (d : Int) ∧ (d : Int) < endOf ms + 1 ∧ (0 ≤ ms.getD a 0 ∧ ms.getD a 0 ≤ 16) ∧ 0 ≤ ms.getD b 0 ∧ ms.getD b 0 ≤ 16 by
          have h1 := dif_pos' hg3.2.1 (show a < ms.length by omega) hb
          have ea : ms.getD a 0 = ms[a]'(by omega) := by simp [List.getD, show a < ms.length by omega]
          have eb : ms.getD b 0 = ms[b]'(by omega) := by simp [List.getD, show b < ms.length by omega]
          have h2 := hg3.2.2 _ (List.getElem_mem (show a < ms.length by omega))
          have h3 := hg3.2.2 _ (List.getElem_mem (show b < ms.length by omega))
          have h4 : dif ms a b = ms.getD a 0 - ms.getD b 0 := rfl
          exact ⟨(dif ms a b).toNat, by omega, by omega, by omega, by omega, by omega⟩)
        have HDB := Lib.hid (fun (y : Int) (hy : y ∈ D ms) => D_bd hv y hy)
        have HDP := Lib.hid (fun (y : Int) (hy : y ∈ D ms) (h0 : 0 < y) => D_pair hy h0)
        have HHB := Lib.hid (fun (y : Int) (hy : y ∈ H ms) => hole_bd hv hy)
        rw [htop] at HDB HHB
        rw [hml] at HDP HHB
        have HRB := Lib.hid (tw_rB hg3.2.1 (by omega))
        rw [hml] at HRB
        have HGM := Lib.hid hg3
        have HGE := Lib.hid (show endOf ms = endOf ms from rfl)
        have HLE := Lib.hid hml
        have HCL := Lib.hid hcap
        have HRM := Lib.hid hR0
        obtain ⟨n1, hn1⟩ : ∃ n1 : Nat, endOf ms + 1 = (n1 : Int) := ⟨(endOf ms + 1).toNat, by omega⟩
        have HLN1 := Lib.hid (show endOf ms + 1 = (n1 : Int) from hn1)
        have hn18 : n1 ≤ 17 := by omega
        have HLe := Lib.hid (show endOf ms = (n1 : Int) - 1 by omega)
        clear hg3 hv htop hml hcap hR0
        generalize hLL : endOf ms = L at *
        replace HGE := Lib.hid hLL
        clear hLL
        refine (HD1.out _ (World.grownBy.refl _ _)).mono ?_
        rintro e w1 ⟨A1, c1, rfl, ho1, hg1⟩
        have R1 := Lib.hid (Rd.of_own ho1 (Nat.mul_one _).symm)
        clear ho1
        go_wp2_with fail
        refine (HH1.out _ hg1).mono ?_
        rintro e w2 ⟨A2, c2, rfl, ho2, hg2⟩
        have R2 := Lib.hid (Rd.of_own ho2 (Nat.mul_one _).symm)
        have R12 := Lib.hid (fun (w3 : World) (g3 : w2.grownBy w3 none) => (R1.out.kept0 (hg2.trans g3) (Nat.le_refl _)).mono (hg2.trans g3).size)
        have hg12 := hg1.trans hg2
        have HG2 := Lib.hid (HGW.out.trans hg12)
        clear ho2 HD1 HH1 R1
        generalize hdl : (D ms).length = nd at *
        generalize hhl : (H ms).length = nh at *
        have hn1L : L < (n1 : Int) := by omega
        have hn10 : (0 : Int) < (n1 : Int) := by omega
        go_wp2_with (at_make; refine wpList_make_full _ rfl _ _ _ rfl w2.heap.size 2 i0 (.int .i64 0) 1 Try.underlying24 hi0 hz0 hz1 _ _ _ _ n1 rfl rfl rfl rfl (by rw [hz2]; omega) (by unfold maxLen; omega) (Nat.le_refl _) ?_; intro w3 hown3 hg3)
        rw [Nat.mul_one] at hown3
        replace hown3 : w3.ownsRow w2.heap.size 2 1 (.slice (some ⟨w2.heap.size, 0, none⟩) n1 n1) n1 (ints (cts ms n1 0 0)) := by
          rw [show ints (cts ms n1 0 0) = List.replicate n1 (.int .i64 0) by rw [cts_zero]; simp [ints]]
          exact (toList_madeCells_one (.int .i64 0) n1) ▸ hown3
        have HCN := Lib.hid (fun (i j d : Nat) (h1 : dif ms i j = (d : Int)) (h2 : d < n1) => cts_next (xs := ms) (n := n1) (i := i) (k := j) h1 h2)
        have HTN := Lib.hid (fun (i j d : Nat) (h1 : dif ms i j = (d : Int)) (h2 : d < n1) => tw_next (xs := ms) (n := n1) (i := i) (k := j) h1 h2)
        have HCR := Lib.hid (fun (i : Nat) => cts_row ms n1 i)
        have HTR := Lib.hid (fun (i : Nat) => tw_row ms i)
        have HCAt := Lib.hid (fun (i j d : Nat) (h : d < n1) => cts_at ms n1 i j d h)
        have HCL2 := Lib.hid (fun (i j : Nat) => cts_len ms n1 i j)
        have HCB := Lib.hid (fun (i j d : Nat) (hi : i ≤ 5) (hj : j ≤ 5) (h : d < n1) => show 0 ≤ (cts ms n1 i j).getD d 0 ∧ (cts ms n1 i j).getD d 0 ≤ 1000 by
          rw [cts_at _ _ _ _ _ h]
          refine ⟨by omega, ?_⟩
          have h1 : (pq ms i j).count (d : Int) ≤ (pq ms i j).length := List.count_le_length
          have h2 := pq_len2 ms i j
          have h3 := pq_len ms i
          have h4 : i * (i - 1) ≤ 5 * 5 := Nat.mul_le_mul hi (by omega)
          omega)
        go_loopw [13, 14] (fun tv iv wq => ∃ i : Nat, i ≤ k + 1 ∧ iv = .int .i64 i ∧ tv = .bool (tw ms i 0) ∧ wq.ownsRow w2.heap.size 2 1 (.slice (some ⟨w2.heap.size, 0, none⟩) n1 n1) n1 (ints (cts ms n1 i 0)) ∧ w2.grownBy wq none) (fun _ iv _ => (20 - intOf iv).toNat)
        case atStart => exact ⟨0, Nat.zero_le _, rfl, rfl, hown3, hg3⟩
        case round =>
          obtain ⟨i, hi, rfl, rfl, hown, hg⟩ := hrel
          by_cases hlt : i < k + 1
          · have i1 : (i : Int) < (k : Int) + 1 := by omega
            have HO := Lib.hid (And.intro hown hg)
            have i0' : (0 : Int) ≤ (i : Int) := by omega
            have HMi := Lib.hid (fun (wx : World) (gx : w2.grownBy wx none) => HMC.out wx (hg12.trans gx) i hlt)
            clear hown hg hown3 hg3
            go_wp2_with fail
            go_loopw [13, 15] (fun tv jv wq => ∃ j : Nat, j ≤ i ∧ jv = .int .i64 j ∧ tv = .bool (tw ms i j) ∧ wq.ownsRow w2.heap.size 2 1 (.slice (some ⟨w2.heap.size, 0, none⟩) n1 n1) n1 (ints (cts ms n1 i j)) ∧ w2.grownBy wq none) (fun _ jv _ => (20 - intOf jv).toNat)
            case atStart => exact ⟨0, Nat.zero_le _, rfl, rfl, HO.out.1, HO.out.2⟩
            case round =>
              obtain ⟨j, hj, rfl, rfl, hown, hg⟩ := hrel
              by_cases hjl : j < i
              · have j1 : (j : Int) < (i : Int) := by omega
                have j0 : (0 : Int) ≤ (j : Int) := by omega
                have j2 : (j : Int) < (k : Int) + 1 := by omega
                have c1' := HMi.out wr.drew (hg.trans (gb_drewN wr 1 none))
                have c2' := HMC.out wr.drew (hg12.trans (hg.trans (gb_drewN wr 1 none))) j (by omega)
                obtain ⟨d, hd1, hd2, hd3, ⟨ma0, ma1⟩, mb0, mb1⟩ := HMB.out i j hlt hjl
                have hdn : d < n1 := by omega
                obtain ⟨x0, x1⟩ := HCB.out i j d (by omega) (by omega) hdn
                have hl1 := HCL2.out i j
                have hcd := (World.ownsRow.drew hown).cellAt d (by omega)
                rw [ints_at _ _ (by rw [hl1]; exact hdn)] at hcd
                have hfz := (World.ownsRow.drew hown).frozenAt d
                have hst := (World.ownsRow.drew hown).stored d (.int .i64 ((cts ms n1 i j).getD d 0 + 1))
                rw [← ints_set, ← HCN.out i j d hd1 hdn] at hst
                have HTE := Lib.hid (HTN.out i j d hd1 hdn)
                have hgw : w2.grownBy (wr.drew.setCell ⟨w2.heap.size, d, none⟩ (.int .i64 ((cts ms n1 i j).getD d 0 + 1))) none := gb_new (hg.trans (gb_drewN wr 1 none)) hst.2 (by intro q e; injection e with e; omega)
                have hce4 := hst.1.cellAt d (by omega)
                rw [HCN.out i j d hd1 hdn, ints_set, List.getElem?_set_self (by rw [ints_len, hl1]; exact hdn)] at hce4
                have HS4 := Lib.hid (And.intro hst.1 hgw)
                have c14 := HMi.out _ hgw
                have c24 := HMC.out _ (hg12.trans hgw) j (by omega)
                clear hst hgw hown hg
                generalize hxx : (cts ms n1 i j).getD d 0 = x at *
                generalize ms.getD i 0 = a at *
                generalize ms.getD j 0 = b at *
                have d0 : (0 : Int) ≤ (d : Int) := by omega
                have d1 : (d : Int) < (n1 : Int) := by omega
                have x2 : IntKind.i64.wrap (x + 1) = x + 1 := by rw [IntKind.wrap_i64]; omega
                have x3 : IntKind.i64.wrap (a - b) = (d : Int) := by rw [IntKind.wrap_i64]; omega
                have x4 : IntKind.i64.wrap (d : Int) = (d : Int) := by rw [IntKind.wrap_i64]; omega
                clear HCN HTN HCB HMB hd1 hxx hl1
                go_wp2_with fail
                go_region
                change Exit.then _ _ _ _ (wr.drew.setCell ⟨w2.heap.size, d, none⟩ (.int .i64 (x + 1)))
                generalize wr.drew.setCell ⟨w2.heap.size, d, none⟩ (.int .i64 (x + 1)) = W4 at *
                clear c1' c2' hcd hfz HMi x2 x3
                cases htw : tw ms i j with
                | true =>
                  have HTV := Lib.hid (show tw ms i (j + 1) = true by rw [HTE.out, htw]; rfl)
                  clear HTE htw
                  go_wp2_with fail
                  go_quiet (fail)
                  go_wp2_with fail
                  go_roundw
                  case rel => exact ⟨j + 1, by clear x4; omega, by go_num, by rw [HTV.out], own_kept0 HS4.out.1 (gb_drewN _ _ _), HS4.out.2.trans (gb_drewN _ _ _)⟩
                  case measure => clear x4; simp [intOf]; omega
                | false =>
                  by_cases h1x : 1 < x + 1
                  · have HTV := Lib.hid (show tw ms i (j + 1) = true by rw [HTE.out, htw, decide_eq_true h1x]; rfl)
                    clear HTE htw
                    have x3 : IntKind.i64.wrap (a - b) = (d : Int) := by rw [hd2]; exact x4
                    go_wp2_with fail
                    go_quiet (fail)
                    go_wp2_with fail
                    go_roundw
                    case rel => exact ⟨j + 1, by clear x4 x3; omega, by go_num, by rw [HTV.out], own_kept0 HS4.out.1 (gb_drewN _ _ _), HS4.out.2.trans (gb_drewN _ _ _)⟩
                    case measure => clear x4 x3; simp [intOf]; omega
                  · have HTV := Lib.hid (show tw ms i (j + 1) = false by rw [HTE.out, htw, decide_eq_false h1x]; rfl)
                    have h2x : decide (1 < x + 1) = false := decide_eq_false h1x
                    clear HTE htw
                    have x3 : IntKind.i64.wrap (a - b) = (d : Int) := by rw [hd2]; exact x4
                    go_wp2_with fail
                    go_quiet (fail)
                    go_wp2_with fail
                    go_roundw
                    case rel => exact ⟨j + 1, by clear x4 x3; omega, by go_num, by rw [HTV.out], own_kept0 HS4.out.1 (gb_drewN _ _ _), HS4.out.2.trans (gb_drewN _ _ _)⟩
                    case measure => clear x4 x3; simp [intOf]; omega
              · obtain rfl : i = j := by omega
                rw [HCR.out i] at hown
                have HTV := Lib.hid (HTR.out i)
                have h2x : (i : Int) ≤ (i : Int) := Int.le_refl _
                go_wp2_with fail
                go_roundw
                case rel => exact ⟨i + 1, by omega, by go_num, by rw [HTV.out], hown, hg⟩
                case measure => simp [intOf]; omega
          · obtain rfl : i = k + 1 := by omega
            have HG4 := Lib.hid (HG2.out.trans hg)
            have hgr := hg12.trans hg
            have HMW := Lib.hid (fun (wx : World) (gx : wr.grownBy wx none) (j : Nat) (hj : j < k + 1) => HMC.out wx (hgr.trans gx) j hj)
            have HIW := Lib.hid (fun (wx : World) (gx : wr.grownBy wx none) => HI1.out wx (hgr.trans gx))
            have HDW := Lib.hid (fun (wx : World) (gx : wr.grownBy wx none) => R12.out wx (hg.trans gx))
            have HHW := Lib.hid (fun (wx : World) (gx : wr.grownBy wx none) => R2.out.kept0 (hg.trans gx) (Nat.le_refl _))
            have HCW := Lib.hid (fun (wx : World) (gx : wr.grownBy wx none) (d : Nat) (hd : d < n1) => show wx.cell? ⟨w2.heap.size, d, none⟩ = some (.int .i64 (((pq ms (k + 1) 0).count (d : Int) : Nat) : Int)) by
              have h1 := (own_kept0 hown gx).cellAt d (by omega)
              rw [ints_at _ _ (by rw [HCL2.out]; exact hd), HCAt.out _ _ _ hd] at h1
              exact h1)
            clear HMC HI1 R12 R2 HCAt HCL2 HCN HTN HCB HMB HCR HTR hown hown3 hg3 hg hg12 hg1 hg2 HG2 hgr hlt hi hce
            have k2 : ((k + 1 : Nat) : Int) = (k : Int) + 1 := rfl
            go_wp2_with fail
            generalize hwz : wr = w4 at *
            clear hwz
            go_loopw [16] (fun iv wq => ∃ m : Nat, m ≤ nd ∧ iv = .int .i64 m ∧ w4.grownBy wq none) (fun iv _ => (100 - intOf iv).toNat)
            case atStart => exact ⟨0, Nat.zero_le _, rfl, World.grownBy.refl _ _⟩
            case round =>
              obtain ⟨m, hm, rfl, hg⟩ := hrel
              by_cases hlt : m < nd
              · obtain ⟨ad, rfl, _, hcy⟩ := (HDW.out wr hg).at_ hlt
                have hml : m < (D ms).length := by rw [hdl]; exact hlt
                have hmem := List.getElem_mem hml
                rw [ints_getD _ _ hml] at hcy
                obtain ⟨y0, yL⟩ := HDB.out _ hmem
                obtain ⟨d, hd⟩ : ∃ d : Nat, (D ms)[m] = (d : Int) := ⟨((D ms)[m]).toNat, by omega⟩
                rw [hd] at hcy yL
                have m1 : (m : Int) < (nd : Int) := by omega
                have m0 : (0 : Int) ≤ (m : Int) := by omega
                have d0 : (0 : Int) ≤ (d : Int) := by omega
                have d1 : (d : Int) < (n1 : Int) := by omega
                have q1 : decide ((d : Int) < 0) = false := decide_eq_false (by omega)
                have q2 : decide (L < (d : Int)) = false := decide_eq_false (by omega)
                have hcc := HCW.out wr hg d (by omega)
                by_cases hd0 : d = 0
                · subst hd0
                  have q3 : decide ((0 : Int) < ((0 : Nat) : Int)) = false := by decide
                  clear hmem hd hcc y0
                  go_wp2_with fail
                  refine ⟨?_, ?measure⟩
                  (repeat apply Exists.intro)
                  refine ⟨?rel, rfl⟩
                  case rel => exact ⟨m + 1, by omega, by go_num, hg⟩
                  case measure => simp [intOf]; omega
                · have hpos := List.count_pos_iff.2 (HDP.out _ hmem (by omega))
                  rw [hd] at hpos
                  generalize hcn : (pq ms (k + 1) 0).count (d : Int) = cn at *
                  have q3 : decide ((0 : Int) < (d : Int)) = true := decide_eq_true (by omega)
                  have q3b : (0 : Int) < (d : Int) := by omega
                  have q4 : ((cn : Int) == 0) = false := by simp; omega
                  clear hmem hd y0 hcn
                  go_wp2_with fail
                  refine ⟨?_, ?measure⟩
                  (repeat apply Exists.intro)
                  refine ⟨?rel, rfl⟩
                  case rel => exact ⟨m + 1, by omega, by go_num, hg⟩
                  case measure => simp [intOf]; omega
              · obtain rfl : nd = m := by omega
                clear HDW HDP HDB hlt hm
                go_wp2_with fail
                generalize hwz : wr = w5 at *
                clear hwz
                go_loopw [17] (fun iv wq => ∃ m : Nat, m ≤ nh ∧ iv = .int .i64 m ∧ w5.grownBy wq none) (fun iv _ => (100 - intOf iv).toNat)
                case atStart => exact ⟨0, Nat.zero_le _, rfl, World.grownBy.refl _ _⟩
                case round =>
                  obtain ⟨m, hm, rfl, hg5⟩ := hrel
                  by_cases hlt : m < nh
                  · have hg6 := hg.trans hg5
                    obtain ⟨ad, rfl, _, hcy⟩ := (HHW.out wr hg6).at_ hlt
                    have hml : m < (H ms).length := by rw [hhl]; exact hlt
                    have hmem := List.getElem_mem hml
                    rw [ints_getD _ _ hml] at hcy
                    obtain ⟨y0, yL, yn⟩ := HHB.out _ hmem
                    obtain ⟨d, hd⟩ : ∃ d : Nat, (H ms)[m] = (d : Int) := ⟨((H ms)[m]).toNat, by omega⟩
                    rw [hd] at hcy yL y0 yn
                    have m1 : (m : Int) < (nh : Int) := by omega
                    have m0 : (0 : Int) ≤ (m : Int) := by omega
                    have d0 : (0 : Int) ≤ (d : Int) := by omega
                    have d1 : (d : Int) < (n1 : Int) := by omega
                    have q1 : decide ((d : Int) < 1) = false := decide_eq_false (by omega)
                    have q2 : decide (L < (d : Int)) = false := decide_eq_false (by omega)
                    have hcc := HCW.out wr hg6 d (by omega)
                    rw [List.count_eq_zero_of_not_mem yn] at hcc
                    clear hmem hd yn
                    go_wp2_with fail
                    go_roundw
                    case rel => exact ⟨m + 1, by omega, by go_num, hg5⟩
                    case measure => simp [intOf]; omega
                  · obtain rfl : nh = m := by omega
                    have hgr := hg.trans hg5
                    have HG6 := Lib.hid (HG4.out.trans hgr)
                    obtain ⟨b, hb⟩ := best_is (cnt := k + 1) (by omega) k4
                    have HB1 := Lib.hid (fun (wx : World) => short_impl (k + 1) wx (by omega) (by omega))
                    rw [hb.some_] at HB1
                    simp only [Option.getD_some, Option.isSome_some, hb.len] at HB1
                    rw [k2] at HB1
                    clear HCW HHB HHW hlt hm
                    go_wp2_with fail
                    refine (HB1.out _).mono ?_
                    rintro e w6 ⟨A3, c3, rfl, ho3, g3⟩
                    obtain ⟨gb, cb, hA3⟩ := ownsRow_succ ho3
                    injection hA3 with hA3 _ hc3
                    subst hA3 hc3
                    have hbl := own_le ho3
                    have hRb : Rd w6 w6.heap.size (some ⟨gb, 0, none⟩) (k + 1) (fun j => (ints b).getD j undef) := Rd.of_own ho3 (Nat.mul_one _).symm
                    have HIB := Lib.hid (fun (wx : World) (gx : w6.grownBy wx none) => ruimpl_c b (some ⟨gb, 0, none⟩) c3 wx.heap.size wx (by rw [hb.len]; exact hbl) (by rw [hb.len]; exact (hRb.kept0 gx (Nat.le_refl _)).mono gx.size) (Nat.le_refl _))
                    rw [hb.len, show ruB b = true by rw [ru_yes (good_mB hb.good (by rw [hb.len]; omega) (by have := hb.top; omega))]; exact hb.ruler] at HIB
                    have HBE := Lib.hid (fun (wx : World) (gx : w6.grownBy wx none) => show wx.cell? ⟨gb, 0, none⟩ = some (.int .i64 0) ∧ wx.cell? ⟨gb, k, none⟩ = some (.int .i64 (endOf b)) by
                      have h1 := gx.cell (ho3.cells rfl 0 _ (ints_at b 0 (by rw [hb.len]; omega))) (by simp)
                      have h2 := gx.cell (ho3.cells rfl k _ (end_get hb.len)) (by simp)
                      rw [hb.zero] at h1
                      rw [slc.add_plain, Nat.zero_add] at h1 h2
                      exact ⟨h1, h2⟩)
                    have hgb0 := (hb.good.2.2 _ (end_mem hb.good.1)).1
                    have hgb1 := hb.top
                    have HLB := Lib.hid (fun (h : tw ms (k + 1) 0 = false) => best_le (l := ms) (b := b) (by rw [HLE.out]; exact hb) (by rw [HLE.out]; omega) (HGE.out ▸ HGM.out) HZ.out (by rw [HRB.out, h]; rfl))
                    rw [HGE.out] at HLB
                    rw [HRB.out] at HIW
                    have g36 := hgr.trans g3
                    have HG7 := Lib.hid (HG6.out.trans g3)
                    have HI2 := Lib.hid (HIW.out w6 g36)
                    have HQ4 := Lib.hid (fun (wx : World) (gx : w6.grownBy wx none) => (g36.trans gx))
                    generalize endOf b = eb at *
                    clear hb hbl hRb ho3 HIW HB1 hgr HG6 HG4 hg hg5
                    have hkk : (k : Int) < (k : Int) + 1 := by omega
                    cases htw : tw ms (k + 1) 0 with
                    | true =>
                      rw [htw] at HI2
                      clear HLB
                      go_wp2_with fail
                      refine HI2.out.mono ?_
                      rintro e w7 ⟨rfl, g7⟩
                      have HI3 := Lib.hid (HIB.out w7 g7)
                      go_wp2_with fail
                      refine HI3.out.mono ?_
                      rintro e w8 ⟨rfl, g8⟩
                      have g78 := g7.trans g8
                      have hh := HBE.out w8 g78
                      have e1 := hh.1
                      have e2 := hh.2
                      have HG8 := Lib.hid (HG7.out.trans g78)
                      clear hh g7 g8 HI2 HI3 HIB HBE HG7 HQ4 g36 g3 HMW
                      go_wp2_with fail
                      · go_ret
                        exact ⟨rfl, gb_below HG8.out⟩
                      · rename_i hL12
                        obtain ⟨n, hn⟩ : ∃ n : Nat, L = (n : Int) := ⟨L.toNat, by omega⟩
                        subst hn
                        obtain ⟨f, hf⟩ := few_is (n := n) (by omega)
                        have HF := few_impl n w8 (by omega)
                        rw [hf.some_] at HF
                        simp only [Option.getD_some, Option.isSome_some] at HF
                        obtain ⟨q, hq⟩ : ∃ q, f.length = q + 1 := ⟨f.length - 1, by have := hf.pos; omega⟩
                        rw [hq] at HF
                        refine HF.mono ?_
                        rintro e w9 ⟨A4, c4, rfl, ho4, g9⟩
                        obtain ⟨gf, cf, hA4⟩ := ownsRow_succ ho4
                        injection hA4 with hA4 _ hc4
                        subst hA4 hc4
                        have hfl := own_le ho4
                        have hRf : Rd w9 w9.heap.size (some ⟨gf, 0, none⟩) (q + 1) (fun j => (ints f).getD j undef) := Rd.of_own ho4 (Nat.mul_one _).symm
                        have hvf := good_mB hf.good (by have := hf.len; omega) (by omega)
                        have HHF := holes2.impl_c f (some ⟨gf, 0, none⟩) c4 w9.heap.size w9 (by rw [hq]; exact hfl.1) hfl.2 (by rw [hq]; exact hRf) (Nat.le_refl _)
                        rw [hR_yes hvf, hf.full, hvf, hq, List.length_nil] at HHF
                        have HHG := Lib.hid HHF
                        have hle := hf.len
                        have hq12 : (q : Int) ≤ 12 := by omega
                        have hq0 : (0 : Int) ≤ (q : Int) := by omega
                        have HFE := Lib.hid (fun (wx : World) (gx : w9.grownBy wx none) => show wx.cell? ⟨gf, 0, none⟩ = some (.int .i64 0) ∧ wx.cell? ⟨gf, q, none⟩ = some (.int .i64 (n : Int)) by
                          have h1 := gx.cell (ho4.cells rfl 0 _ (ints_at f 0 (by rw [hq]; omega))) (by simp)
                          have h2 := gx.cell (ho4.cells rfl q _ (end_get hq)) (by simp)
                          rw [hf.zero] at h1
                          rw [hf.top] at h2
                          rw [slc.add_plain, Nat.zero_add] at h1 h2
                          exact ⟨h1, h2⟩)
                        have HFL := Lib.hid (fun (h : nh = 0) => show (q : Int) ≤ (k : Int) by
                          have := few_le hf HGM.out HZ.out HGE.out (List.eq_nil_of_length_eq_zero (hhl.trans h))
                          rw [hq, HLE.out] at this
                          omega)
                        have HG9 := Lib.hid (HG8.out.trans g9)
                        clear HHF HF hRf hvf hfl hf hq ho4 hle hn1 hHL
                        go_wp2_with fail
                        refine HHG.out.mono ?_
                        rintro e w10 ⟨A5, c5, rfl, _, g10⟩
                        have hh := HFE.out w10 g10
                        have f1 := hh.1
                        have f2 := hh.2
                        have HG10 := Lib.hid (HG9.out.trans g10)
                        clear hh g10 HHG HFE HG9 g9
                        by_cases hnh : nh = 0
                        · have hqk := HFL.out hnh
                          have hqk2 : (q : Int) + 1 ≤ (k : Int) + 1 := by omega
                          clear HFL
                          subst hnh
                          go_wp2_with fail
                          go_ret
                          exact ⟨rfl, gb_below HG10.out⟩
                        · have hnz : decide ((0 : Int) < (nh : Int)) = true := decide_eq_true (by omega)
                          have hnz2 : (0 : Int) < (nh : Int) := by omega
                          clear HFL hnh
                          go_wp2_with fail
                          go_ret
                          exact ⟨rfl, gb_below HG10.out⟩
                    | false =>
                      rw [htw] at HI2
                      have hlb := HLB.out htw
                      clear HLB
                      go_wp2_with fail
                      refine HI2.out.mono ?_
                      rintro e w7 ⟨rfl, g7⟩
                      have HI3 := Lib.hid (HIB.out w7 g7)
                      go_wp2_with fail
                      refine HI3.out.mono ?_
                      rintro e w8 ⟨rfl, g8⟩
                      have g78 := g7.trans g8
                      have hh := HBE.out w8 g78
                      have e1 := hh.1
                      have e2 := hh.2
                      have HG8 := Lib.hid (HG7.out.trans g78)
                      clear hh g7 g8 HI2 HI3 HIB HBE HG7 HQ4 g36 g3 HMW
                      go_wp2_with fail
                      · go_ret
                        exact ⟨rfl, gb_below HG8.out⟩
                      · rename_i hL12
                        obtain ⟨n, hn⟩ : ∃ n : Nat, L = (n : Int) := ⟨L.toNat, by omega⟩
                        subst hn
                        obtain ⟨f, hf⟩ := few_is (n := n) (by omega)
                        have HF := few_impl n w8 (by omega)
                        rw [hf.some_] at HF
                        simp only [Option.getD_some, Option.isSome_some] at HF
                        obtain ⟨q, hq⟩ : ∃ q, f.length = q + 1 := ⟨f.length - 1, by have := hf.pos; omega⟩
                        rw [hq] at HF
                        refine HF.mono ?_
                        rintro e w9 ⟨A4, c4, rfl, ho4, g9⟩
                        obtain ⟨gf, cf, hA4⟩ := ownsRow_succ ho4
                        injection hA4 with hA4 _ hc4
                        subst hA4 hc4
                        have hfl := own_le ho4
                        have hRf : Rd w9 w9.heap.size (some ⟨gf, 0, none⟩) (q + 1) (fun j => (ints f).getD j undef) := Rd.of_own ho4 (Nat.mul_one _).symm
                        have hvf := good_mB hf.good (by have := hf.len; omega) (by omega)
                        have HHF := holes2.impl_c f (some ⟨gf, 0, none⟩) c4 w9.heap.size w9 (by rw [hq]; exact hfl.1) hfl.2 (by rw [hq]; exact hRf) (Nat.le_refl _)
                        rw [hR_yes hvf, hf.full, hvf, hq, List.length_nil] at HHF
                        have HHG := Lib.hid HHF
                        have hle := hf.len
                        have hq12 : (q : Int) ≤ 12 := by omega
                        have hq0 : (0 : Int) ≤ (q : Int) := by omega
                        have HFE := Lib.hid (fun (wx : World) (gx : w9.grownBy wx none) => show wx.cell? ⟨gf, 0, none⟩ = some (.int .i64 0) ∧ wx.cell? ⟨gf, q, none⟩ = some (.int .i64 (n : Int)) by
                          have h1 := gx.cell (ho4.cells rfl 0 _ (ints_at f 0 (by rw [hq]; omega))) (by simp)
                          have h2 := gx.cell (ho4.cells rfl q _ (end_get hq)) (by simp)
                          rw [hf.zero] at h1
                          rw [hf.top] at h2
                          rw [slc.add_plain, Nat.zero_add] at h1 h2
                          exact ⟨h1, h2⟩)
                        have HFL := Lib.hid (fun (h : nh = 0) => show (q : Int) ≤ (k : Int) by
                          have := few_le hf HGM.out HZ.out HGE.out (List.eq_nil_of_length_eq_zero (hhl.trans h))
                          rw [hq, HLE.out] at this
                          omega)
                        have HG9 := Lib.hid (HG8.out.trans g9)
                        clear HHF HF hRf hvf hfl hf hq ho4 hle hn1 hHL
                        go_wp2_with fail
                        refine HHG.out.mono ?_
                        rintro e w10 ⟨A5, c5, rfl, _, g10⟩
                        have hh := HFE.out w10 g10
                        have f1 := hh.1
                        have f2 := hh.2
                        have HG10 := Lib.hid (HG9.out.trans g10)
                        clear hh g10 HHG HFE HG9 g9
                        by_cases hnh : nh = 0
                        · have hqk := HFL.out hnh
                          have hqk2 : (q : Int) + 1 ≤ (k : Int) + 1 := by omega
                          clear HFL
                          subst hnh
                          go_wp2_with fail
                          go_ret
                          exact ⟨rfl, gb_below HG10.out⟩
                        · have hnz : decide ((0 : Int) < (nh : Int)) = true := decide_eq_true (by omega)
                          have hnz2 : (0 : Int) < (nh : Int) := by omega
                          clear HFL hnh
                          go_wp2_with fail
                          go_ret
                          exact ⟨rfl, gb_below HG10.out⟩
  · have hl' : 48 < z.length ∨ 48 < y.length := by omega
    go_enter Try.func3, Try.ntmps3
    go_wp2_with fail
    refine (long_yes _ _ _ _ _ _ _ hl' hm hy).mono ?_
    rintro e w' ⟨rfl, rfl⟩
    go_wp2_with fail
    go_ret
    exact ⟨rfl, Below.refl _ _⟩

theorem walk (a0 : Option Addr) (len0 cap0 : Nat) (z0 : List Int) (a1 : Option Addr) (len1 cap1 : Nat) (z1 : List Int) (w : World) (l0 : z0.length = len0) (m0 : len0 ≤ maxLen) (w0 : ∀ x ∈ z0, (Lit.int .u8 x).wf = true) (r0 : Rd w w.heap.size a0 len0 (fun j => .int .u8 (z0.getD j 0)))
    (l1 : z1.length = len1) (m1 : len1 ≤ maxLen) (w1 : ∀ x ∈ z1, (Lit.int .u8 x).wf = true) (r1 : Rd w w.heap.size a1 len1 (fun j => .int .u8 (z1.getD j 0))) :
    Calls Try.prog 3 #[.slice a0 len0 cap0, .slice a1 len1 cap1] w fun e w' => e = .returned (.bool true) ∧ Below w.heap.size w w' := by
  subst l0 l1
  unfold maxLen at m0 m1
  exact law a0 a1 cap0 cap1 z0 z1 w (Byt.of w0) (by omega) (by omega) r0

set_option maxRecDepth 100000 in
theorem lifted (os : Os) (started : os.Started) (H : Type) (enc : TypeId × Value → H) :
    ReturnsInHanded {} Try.checked os 3 .any (Rows.fnRulersSpec.pre6 enc Try.prog Try.f3 Rows.fnRulersRow.domain false) (Rows.fnRulersSpec.post enc Try.prog Try.f3 false true false false) := by
  refine returnsInHanded_of_change (C := Try.checked) own started (by kernel_rfl) Try.func3
    (ChangeSpec.witness6 (enc := enc) (C := Try.checked) false ⟨#[], #[.slice none 0 0, .slice none 0 0], []⟩ 8 (by kernel_rfl) (by kernel_rfl) (by kernel_rfl) (by kernel_rfl)) ?_
  intro W base args ds gs before hval0 hW hcnd _
  have hval : ∀ (j : Nat) t v, Try.f3.params[j]? = some t → args[j]? = some v → Value.okWide Try.prog W .any base t v := hval0
  have hW' := hW
  obtain ⟨p, q, hA0, hV, rfl, hfz, hnd⟩ := hW
  have hA : DataW.TrodAll enc Try.prog W 0 (fun _ => true) true Try.f3.params.toList args.toList ds p := hA0
  rw [Try.params3] at hA hval
  obtain ⟨v0, vs0, d0, ds0, p0, q0, hargs, rfl, rfl, h0, r0⟩ := trodAll_cons hA
  obtain ⟨v1, vs1, d1, ds1, p1, q1, rfl, rfl, rfl, h1, r1⟩ := trodAll_cons r0
  obtain ⟨rfl, rfl, rfl⟩ := trodAll_nil r1
  obtain rfl : args = #[v0, v1] := by cases args; simp_all
  obtain ⟨rfl, rfl⟩ := trodVars_none hV
  obtain ⟨a0, len0, cap0, rfl⟩ := okWide_slice Try.underlying22 (hval 0 22 v0 rfl rfl)
  have k0 := h0
  have lt0 : ∀ x ∈ p0, x.block < W.heap.size := by obtain ⟨m, hm⟩ := k0; exact DataW.trod_lt m _ _ _ hm
  obtain ⟨z0, l0, m0, w0, r0'⟩ := opened_ints Try.underlying22 Try.underlying5 (by kernel_rfl) k0
  obtain ⟨a1, len1, cap1, rfl⟩ := okWide_slice Try.underlying22 (hval 1 22 v1 rfl rfl)
  have k1 := h1
  have lt1 : ∀ x ∈ p1, x.block < W.heap.size := by obtain ⟨m, hm⟩ := k1; exact DataW.trod_lt m _ _ _ hm
  obtain ⟨z1, l1, m1, w1, r1'⟩ := opened_ints Try.underlying22 Try.underlying5 (by kernel_rfl) k1
  clear hA0 hval0
  refine (walk a0 len0 cap0 z0 a1 len1 cap1 z1 W l0 m0 w0 r0' l1 m1 w1 r1').mono fun e W' ⟨he, bel⟩ => ?_
  subst he
  exact ⟨_, rfl, _, _, _, [], _, [], hW', trodAll_mk1 (shut_bool Try.underlying4 _), (trodAll_cons_mk (Below.trod laidOut (by kernel_rfl) (of_decide_eq_true (by kernel_rfl)) k0 bel lt0) (trodAll_cons_mk (Below.trod laidOut (by kernel_rfl) (of_decide_eq_true (by kernel_rfl)) k1 bel lt1) trodAll_mk0)), rfl, bel.frame _, fun h => by cases h⟩

set_option maxHeartbeats 8000000 in
theorem over : Rows.fnRulersRow.holds Try.pinned (OpenSpec.ofChange Rows.fnRulersSpec) :=
  OpenClaim.holds_of_wide 3 Try.f3 rfl rfl rfl rfl rfl rfl rfl ⟨rfl, rfl, rfl, rfl, rfl⟩ rfl rfl rfl rfl rfl (by as_aux_lemma => kernel_rfl) Try.func3 (by as_aux_lemma => kernel_rfl)
    (of_decide_eq_true (by as_aux_lemma => kernel_rfl)) (by unfold Func.isWrapper; first | (rw [if_pos (by decide +kernel)]; kernel_rfl) | (rw [if_neg (by decide +kernel)]; exact ⟨rfl, rfl⟩))
    (fun os started H enc _ => lifted os started H enc)

theorem proved : Rows.FnRulersSaid := over
#print axioms proved
end Go.Proofs.Ytpmjheofjmdfeaa.fnRulers
