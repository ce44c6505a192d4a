/- Levels of a cut, by the program and by the model. -/
import Derived.Test.YthnifmgjgdmmoaaRows
import Derived.Test.YthnifmgjgdmmoaaSlc
import Derived.Test.YthnifmgjgdmmoaaSmall
import Derived.Test.YthnifmgjgdmmoaaListI
import Derived.Test.YthnifmgjgdmmoaaFloats
import Derived.Test.YthnifmgjgdmmoaaRound
import Derived.Test.YthnifmgjgdmmoaaValues
import Derived.Test.YthnifmgjgdmmoaaConv
import Derived.Test.YthnifmgjgdmmoaaFWalk
import Derived.Test.YthnifmgjgdmmoaaCut
import Derived.Test.YthnifmgjgdmmoaaListF
import Derived.Test.YthnifmgjgdmmoaaPeak
import Derived.Test.YthnifmgjgdmmoaaRuns
import Derived.Test.YthnifmgjgdmmoaaMarkF
import Derived.Test.YthnifmgjgdmmoaaFinWalk
import Derived.Test.YthnifmgjgdmmoaaFloat2
import Derived.Test.YthnifmgjgdmmoaaFloat3
import Derived.Test.YthnifmgjgdmmoaaPhase
import Derived.Test.YthnifmgjgdmmoaaSine
import Derived.Test.YthnifmgjgdmmoaaFinBoth
import Derived.Test.YthnifmgjgdmmoaaLogNum
import Derived.Test.YthnifmgjgdmmoaaLogWalk
import Derived.Test.YthnifmgjgdmmoaaTenths
import Derived.Test.YthnifmgjgdmmoaaTenths2
import Derived.Test.YthnifmgjgdmmoaaTenths3
import Derived.Test.YthnifmgjgdmmoaaTenthsBd
import Derived.WalkKit
import Derived.ProofKit
import Derived.OpenShut
import Derived.ShutString
import Derived.ChangeOld
import Derived.Below
import Derived.Lib.Hide
import Derived.BigQuiet
import Derived.Deep.QuietTactic
import Derived.WalkLawsBesides
import Derived.Outline
import Derived.Deep.QuietTactic
import Derived.BigQuiet
import Derived.Deep.LoopGhost
namespace Go.Proofs.Ythnifmgjgdmmoaa.levels
open Go.ChangeShapes Go.WideShapes Go.ChangeAt Go.RowKit
open Go.ChangeMaps (open_string shut_string)
set_option linter.unusedVariables false
open Go Ieee Go.RowKit
open Go.Proofs.Ythnifmgjgdmmoaa.slc Go.Proofs.Ythnifmgjgdmmoaa.small Go.Proofs.Ythnifmgjgdmmoaa.listI Go.Proofs.Ythnifmgjgdmmoaa.cut Go.Proofs.Ythnifmgjgdmmoaa.listF Go.Proofs.Ythnifmgjgdmmoaa.peak Go.Proofs.Ythnifmgjgdmmoaa.markF Go.Proofs.Ythnifmgjgdmmoaa.logWalk Go.Proofs.Ythnifmgjgdmmoaa.tenths Go.Proofs.Ythnifmgjgdmmoaa.tenths3 Go.Proofs.Ythnifmgjgdmmoaa.tenthsBd

theorem gbe {w w' : World} (h : ∃ n, w.drewN n = w') : w.grownBy w' none := by
  obtain ⟨n, rfl⟩ := h
  exact gb_drewN _ _ _
theorem pos_g (p : Nat) (b : Bool) (hb : tnOk p = b) (w : World) : Calls Try.prog 78 #[.float .f32 p] w fun e w' => e = .returned (.bool b) ∧ w.grownBy w' none := by
  subst hb
  exact (pos_call p w).mono fun _ _ h => ⟨h.1, gbe h.2⟩
theorem tn_yes (p : Nat) (hwf : (Lit.float .f32 p).wf = true) (hb : tnOk p = true) (w : World) : Calls Try.prog 49 #[.float .f32 p] w fun e w' => e = .returned (.tuple #[.int .i64 (tnI p), .bool true]) ∧ w.grownBy w' none := by
  have h := tn_i p w hwf
  have e : tnA p = (tnI p, true) := by unfold tnA; rw [if_pos hb]
  rw [e] at h
  exact h.mono fun _ _ h => ⟨h.1, gbe h.2⟩
theorem tn_no (p : Nat) (hwf : (Lit.float .f32 p).wf = true) (hb : tnOk p = false) (w : World) : Calls Try.prog 49 #[.float .f32 p] w fun e w' => e = .returned (.tuple #[.int .i64 0, .bool false]) ∧ w.grownBy w' none := by
  have h := tn_i p w hwf
  have e : tnA p = (0, false) := by unfold tnA; rw [if_neg (by rw [hb]; decide)]
  rw [e] at h
  exact h.mono fun _ _ h => ⟨h.1, gbe h.2⟩

set_option maxHeartbeats 2000000 in
set_option maxRecDepth 100000 in
theorem lv_spec (ad : Addr) (n c B q : Nat) (x : Nat → Nat) (w : World) (hn : n ≤ 129) (hwf : ∀ j, j < n → (Lit.float .f32 (x j)).wf = true) (hB : B ≤ w.heap.size) (ha : Rd w B (some ad) n (fl x))
    (hq : pkI x n = (q : Int)) (hqn : q < n) (hok : tnOk (x q) = true) :
    Calls Try.prog 34 #[.slice (some ad) n c] w fun e w' => ∃ A' c', e = .returned (.tuple #[.slice A' n c', .bool true]) ∧ w'.ownsRow w.heap.size 2 1 (.slice A' n c') n (ints (lvs x (tnI (x q)) n)) ∧ w.grownBy w' none := by
  have hk := fun w hB ha => peak_spec (some ad) n c B x w hn hB ha
  rw [hq] at hk
  have hpos := fun w => pos_g (x q) true hok w
  have hten := fun w => l01_ok (x q) w (hwf q hqn) hok
  obtain ⟨hta, htb⟩ := tn_bd (hwf q hqn) hok
  have hq0 : (0 : Int) ≤ q := by omega
  have hqn' : (q : Int) < n := by omega
  obtain ⟨i0, hi0, hz0, hz1, hz2⟩ := info_parts info64
  have HW := Lib.hid hwf
  generalize tnI (x q) = t at *
  clear hq hok hwf
  go_enter Try.func34, Try.ntmps34
  go_wp2_with fail
  refine (few_yes _ _ _ _ (by omega) hn).mono ?_
  rintro e w' ⟨rfl, rfl⟩
  go_wp2_with fail
  refine (hk _ hB ha).mono ?_
  rintro e w1 ⟨rfl, hg1⟩
  have hc1 : w1.cell? (ad.add q) = some (.float .f32 (x q)) := by
    obtain ⟨ad', e, _, h'⟩ := (ha.kept0 hg1 hB).at_ hqn
    injection e with e; subst e; exact h'
  go_wp2_with fail
  refine (hpos _).mono ?_
  rintro e w2 ⟨rfl, hg2⟩
  have g2 := hg1.trans hg2
  have hc2 : w2.cell? (ad.add q) = some (.float .f32 (x q)) := by
    obtain ⟨ad', e, _, h'⟩ := (ha.kept0 g2 hB).at_ hqn
    injection e with e; subst e; exact h'
  clear hc1
  go_wp2_with fail
  refine (hten _).mono ?_
  rintro e w' ⟨rfl, rfl⟩
  clear hc2
  go_wp2_with fail
  go_loopw [6, 32] (fun v i wr => ∃ k : Nat, k ≤ n ∧ i = .int .i64 k ∧ wr.ownsRow w.heap.size 2 1 v k (ints (lvs x t k)) ∧ w.grownBy wr none) (fun _ i _ => n - (intOf i).toNat)
  case atStart => exact ⟨0, Nat.zero_le _, rfl, World.ownsRow_lit w2 #[] 0 g2.size (Nat.zero_le _) rfl, g2.trans (World.grownBy_alloc _ _ _)⟩
  case round =>
    obtain ⟨k, hk, rfl, hown, hg⟩ := hrel
    by_cases hlt : k < n
    · have hc : wr.cell? (ad.add k) = some (.float .f32 (x k)) := by
        obtain ⟨ad', e, _, h'⟩ := (ha.kept0 hg hB).at_ hlt
        injection e with e; subst e; exact h'
      have hk0 : (0 : Int) ≤ k := by omega
      have hk1 : (k : Int) < n := by omega
      have hls := lvs_succ x t k
      have hll := lvs_len x t k
      cases hb : tnOk (x k) with
      | true =>
        have hp := fun w => pos_g (x k) true hb w
        have ht := fun w => l01_ok (x k) w (HW.out k hlt) hb
        obtain ⟨htk, htl⟩ := tn_bd (HW.out k hlt) hb
        have hlv : lvl x t k = lv t (tnI (x k)) := by unfold lvl; rw [if_pos hb]
        rw [hlv] at hls
        have HL := Lib.hid hls
        clear hls hlv hb
        generalize tnI (x k) = r at *
        go_wp2_with fail
        refine (hp _).mono ?_
        rintro e w3 ⟨rfl, hg3⟩
        have g3 := hg.trans hg3
        have hown3 := own_kept0 hown hg3
        have hc3 : w3.cell? (ad.add k) = some (.float .f32 (x k)) := by
          obtain ⟨ad', e, _, h'⟩ := (ha.kept0 g3 hB).at_ hlt
          injection e with e; subst e; exact h'
        clear hc hown
        go_wp2_with fail
        refine (ht _).mono ?_
        rintro e w' ⟨rfl, rfl⟩
        go_wp2_with fail
        refine (max_call _ _ _).mono ?_
        rintro e w' ⟨rfl, rfl⟩
        have hm : (if r - t < -2000 then (-2000 : Int) else r - t) = lv t r := rfl
        rw [hm]
        clear hm
        generalize lv t r = u at *
        have hbs := Nat.le_trans g3.size (show w3.heap.size ≤ (w3.alloc (.cells #[.int .i64 u] 2)).heap.size by simp)
        go_wp2_with (at_builtin; refine wpList_append_own _ rfl _ _ 28 rfl w.heap.size 2 i0 (.int .i64 0) 1 8 Try.underlying28 hi0 hz0 hz1 hz2 rfl (by decide) _ _ _ rfl (hown3.alloc _) ⟨w3.heap.size, 0, none⟩ 1 1 [.int .i64 u] rfl rfl (cell_one_new _ _ _) (int_one _ _) (by unfold maxLen; omega) (by omega) hbs ?_; intro v' w4 hown' hgrow _)
        go_roundw
        case rel => exact ⟨k + 1, by omega, by go_num, by rw [HL.out, ← ints_snoc]; exact hown', gb_own (g3.trans (World.grownBy_alloc _ _ _)) (hown3.alloc _) (Nat.le_refl _) hgrow⟩
        case measure => simp [intOf]; omega
      | false =>
        have hp := fun w => pos_g (x k) false hb w
        have hlv : lvl x t k = -2000 := by unfold lvl; rw [if_neg (by rw [hb]; decide)]
        rw [hlv] at hls
        have HL := Lib.hid hls
        clear hls hlv hb
        go_wp2_with fail
        refine (hp _).mono ?_
        rintro e w3 ⟨rfl, hg3⟩
        have g3 := hg.trans hg3
        have hown3 := own_kept0 hown hg3
        clear hc hown
        have hbs := Nat.le_trans g3.size (show w3.heap.size ≤ (w3.alloc (.cells #[.int .i64 (-2000)] 2)).heap.size by simp)
        go_wp2_with (at_builtin; refine wpList_append_own _ rfl _ _ 28 rfl w.heap.size 2 i0 (.int .i64 0) 1 8 Try.underlying28 hi0 hz0 hz1 hz2 rfl (by decide) _ _ _ rfl (hown3.alloc _) ⟨w3.heap.size, 0, none⟩ 1 1 [.int .i64 (-2000)] rfl rfl (cell_one_new _ _ _) (int_one _ _) (by unfold maxLen; omega) (by omega) hbs ?_; intro v' w4 hown' hgrow _)
        go_roundw
        case rel => exact ⟨k + 1, by omega, by go_num, by rw [HL.out, ← ints_snoc]; exact hown', gb_own (g3.trans (World.grownBy_alloc _ _ _)) (hown3.alloc _) (Nat.le_refl _) hgrow⟩
        case measure => simp [intOf]; omega
    · obtain rfl : k = n := by omega
      obtain ⟨A', c', rfl⟩ := own_form hown
      go_wp2_with fail
      go_ret2
      exact ⟨_, _, rfl, hown, hg⟩

theorem lst_set2 (l : List Value) (j : Nat) (a b : Value) : (l.set j a).set j b = l.set j b := List.set_set ..
theorem cls_at (ys : List Int) (j : Nat) (h : j < ys.length) : cls ys j = .int .i64 ys[j] := by unfold cls ints; simp [h]
theorem lvs_at (x : Nat → Nat) (t : Int) (n j : Nat) (h : j < n) : cls (lvs x t n) j = .int .i64 (lvl x t j) := by
  rw [cls_at _ _ (by rw [lvs_len]; exact h)]
  simp [lvs]
theorem run_store_int {P : Program} {w : World} {m : Mode} (a : Addr) (k : IntKind) (x : Int) : (store a (.int k x) m).run P w = stored P w a (.int k x) m := run_store P w a _ m rfl
set_option maxHeartbeats 2000000 in
set_option maxRecDepth 100000 in
theorem lv_impl (ad : Addr) (n c B q : Nat) (x : Nat → Nat) (w : World) (hn : n ≤ 129) (hwf : ∀ j, j < n → (Lit.float .f32 (x j)).wf = true) (hB : B ≤ w.heap.size) (ha : Rd w B (some ad) n (fl x))
    (hq : pkR x n = ((q : Int), true)) (hqn : q < n) (hok : tnOk (x q) = true) :
    Calls Try.prog 35 #[.slice (some ad) n c] w fun e w' => ∃ A' c', e = .returned (.tuple #[.slice A' n c', .bool true]) ∧ w'.ownsRow w.heap.size 2 1 (.slice A' n c') n (lst (cls (lvs x (tnI (x q)) n)) n) ∧ w.grownBy w' none := by
  have hk := fun w hB ha => impl_p (some ad) n c B x w (by omega) hB ha
  rw [hq] at hk
  have hten := fun w => tn_yes (x q) (hwf q hqn) hok w
  obtain ⟨hta, htb⟩ := tn_bd (hwf q hqn) hok
  have hq0 : (0 : Int) ≤ q := by omega
  have hqn' : (q : Int) < n := by omega
  obtain ⟨i0, hi0, hz0, hz1, hz2⟩ := info_parts info64
  have HW := Lib.hid hwf
  generalize tnI (x q) = t at *
  clear hq hok hwf
  go_enter Try.func35, Try.ntmps35
  go_wp2_with fail
  refine (hk _ hB ha).mono ?_
  rintro e w1 ⟨rfl, hg1⟩
  have hc1 : w1.cell? (ad.add q) = some (.float .f32 (x q)) := by
    obtain ⟨ad', e, _, h'⟩ := (ha.kept0 hg1 hB).at_ hqn
    injection e with e; subst e; exact h'
  go_wp2_with fail
  refine (hten _).mono ?_
  rintro e w2 ⟨rfl, hg2⟩
  have g2 := hg1.trans hg2
  clear hc1
  go_wp2_with (at_make; refine wpList_make_full _ rfl _ _ _ rfl w2.heap.size 2 i0 (.int .i64 0) 1 Try.underlying28 hi0 hz0 hz1 _ _ _ _ n rfl rfl rfl rfl (by rw [hz2]; omega) (by unfold maxLen; omega) (Nat.le_refl _) ?_; intro w3 hown3 hg3)
  have g3 := g2.trans hg3
  go_loopw [34] (fun i wr => ∃ j : Nat, j ≤ n ∧ i = .int .i64 j ∧ wr.ownsRow w2.heap.size 2 1 (.slice (some ⟨w2.heap.size, 0, none⟩) n n) n (lst (mix (cls (lvs x t n)) (fun _ => .int .i64 0) j) n) ∧ w.grownBy wr none) (fun i _ => n - (intOf i).toNat)
  case atStart =>
    refine ⟨0, Nat.zero_le _, rfl, ?_, g3⟩
    rw [mix_zero, ← replicate_lst]
    rw [Nat.mul_one] at hown3
    exact (toList_madeCells_one (.int .i64 0) n) ▸ hown3
  case round =>
    obtain ⟨j, hj, rfl, hown, hg⟩ := hrel
    by_cases hlt : j < n
    · have hc : wr.cell? (ad.add j) = some (.float .f32 (x j)) := by
        obtain ⟨ad', e, _, h'⟩ := (ha.kept0 hg hB).at_ hlt
        injection e with e; subst e; exact h'
      have hk0 : (0 : Int) ≤ j := by omega
      have hk1 : (j : Int) < n := by omega
      have hla := lvs_at x t n j hlt
      have hcell := hown.cellAt j (by omega)
      rw [lst_get _ _ _ hlt] at hcell
      have hf := hown.frozenAt j
      obtain ⟨hs1, hs2⟩ := hown.stored j (.int .i64 (-2000))
      have hs2' := gb_new hg hs2 (by intro g e; injection e with e; have := g2.size; omega)
      have HS := Lib.hid hs1
      have HG := Lib.hid hs2'
      clear hs1 hs2' hs2 hown hg
      cases hb : tnOk (x j) with
      | true =>
        have ht := fun w => tn_yes (x j) (HW.out j hlt) hb w
        obtain ⟨htk, htl⟩ := tn_bd (HW.out j hlt) hb
        have hlv : lvl x t j = lv t (tnI (x j)) := by unfold lvl; rw [if_pos hb]
        rw [hlv] at hla
        have HL := Lib.hid hla
        clear hla hlv hb
        generalize tnI (x j) = r at *
        go_wp2_with fail
        refine (ht _).mono ?_
        rintro e w4 ⟨rfl, hg4⟩
        have g4 := HG.out.trans hg4
        have hown4 := own_kept0 HS.out hg4
        have hcell4 := hown4.cellAt j (by omega)
        rw [List.getElem?_set_self (by simp [lst]; exact hlt)] at hcell4
        have hf4 := hown4.frozenAt j
        by_cases hm : r - t < -2000
        · have hl2 : cls (lvs x t n) j = .int .i64 (-2000) := by rw [HL.out]; unfold lv; rw [if_pos hm]
          obtain ⟨hs1, hs2⟩ := hown4.stored j (.int .i64 (-2000))
          have hs2' := gb_new g4 hs2 (by intro g e; injection e with e; have := g2.size; omega)
          rw [lst_set2, ← hl2, mix_set _ _ _ _ hlt, hl2] at hs1
          have HS4 := Lib.hid hs1
          have HG4 := Lib.hid hs2'
          clear hs1 hs2' hs2 hown4 g4 hg4 hcell hf hc hl2
          go_wp2
          go_roundw
          case rel => exact ⟨j + 1, by omega, by go_num, HS4.out, HG4.out⟩
          case measure => simp [intOf]; omega
        · have hl2 : cls (lvs x t n) j = .int .i64 (r - t) := by rw [HL.out]; unfold lv; rw [if_neg hm]
          obtain ⟨hs1, hs2⟩ := hown4.stored j (.int .i64 (r - t))
          have hs2' := gb_new g4 hs2 (by intro g e; injection e with e; have := g2.size; omega)
          rw [lst_set2, ← hl2, mix_set _ _ _ _ hlt, hl2] at hs1
          have HS4 := Lib.hid hs1
          have HG4 := Lib.hid hs2'
          clear hs1 hs2' hs2 hown4 g4 hg4 hcell hf hc hl2
          go_wp2
          go_roundw
          case rel => exact ⟨j + 1, by omega, by go_num, HS4.out, HG4.out⟩
          case measure => simp [intOf]; omega
      | false =>
        have ht := fun w => tn_no (x j) (HW.out j hlt) hb w
        have hlv : lvl x t j = -2000 := by unfold lvl; rw [if_neg (by rw [hb]; decide)]
        rw [hlv] at hla
        have hs3 := HS.out
        rw [← hla, mix_set _ _ _ _ hlt, hla] at hs3
        have HS3 := Lib.hid hs3
        clear hla hlv hb hs3
        go_wp2_with fail
        refine (ht _).mono ?_
        rintro e w4 ⟨rfl, hg4⟩
        have g4 := HG.out.trans hg4
        have hown4 := own_kept0 HS3.out hg4
        clear hcell hf hc
        go_wp2_with fail
        go_roundw
        case rel => exact ⟨j + 1, by omega, by go_num, hown4, g4⟩
        case measure => simp [intOf]; omega
    · obtain rfl : j = n := by omega
      go_wp2_with fail
      go_ret2
      exact ⟨_, _, rfl, by rw [← mix_full]; exact own_mono hown g2.size, hg⟩

end Go.Proofs.Ythnifmgjgdmmoaa.levels
