/- Levels of a cut, by the program and by the model. -/
/- LobesOf, DipsOf, LevelsOf where it fails, by the program. -/
/- LevelsOf by the program. -/
import Derived.Test.YtpeclgfopincbaaRows
import Derived.Test.YtpeclgfopincbaaSlc
import Derived.Test.YtpeclgfopincbaaSmall
import Derived.Test.YtpeclgfopincbaaListI
import Derived.Test.YtpeclgfopincbaaFloatAll
import Derived.Test.YtpeclgfopincbaaFWalk
import Derived.Test.YtpeclgfopincbaaCut
import Derived.Test.YtpeclgfopincbaaListF
import Derived.Test.YtpeclgfopincbaaPeak
import Derived.Test.YtpeclgfopincbaaRuns
import Derived.Test.YtpeclgfopincbaaMarkF
import Derived.Test.YtpeclgfopincbaaFinWalk
import Derived.Test.YtpeclgfopincbaaFlAll
import Derived.Test.YtpeclgfopincbaaTenAll
import Derived.Test.YtpeclgfopincbaaReach
import Derived.Test.YtpeclgfopincbaaRuns2
import Derived.Test.YtpeclgfopincbaaRuns3
import Derived.Test.YtpeclgfopincbaaMeanAll
import Derived.WalkKit
import Derived.ProofKit
import Derived.OpenShut
import Derived.ShutString
import Derived.ChangeOld
import Derived.Below
import Derived.Lib.Hide
import Derived.BigQuiet
import Derived.Deep.QuietTactic
import Derived.WalkLawsBesides
import Derived.Outline
import Derived.Deep.LoopGhost
namespace Go.Proofs.Ytpeclgfopincbaa.levels
open Go.ChangeShapes Go.WideShapes Go.ChangeAt Go.RowKit
open Go.ChangeMaps (open_string shut_string)
set_option linter.unusedVariables false
open Go Ieee Go.RowKit
open Go.Proofs.Ytpeclgfopincbaa.slc Go.Proofs.Ytpeclgfopincbaa.small Go.Proofs.Ytpeclgfopincbaa.listI Go.Proofs.Ytpeclgfopincbaa.cut Go.Proofs.Ytpeclgfopincbaa.listF Go.Proofs.Ytpeclgfopincbaa.peak Go.Proofs.Ytpeclgfopincbaa.markF Go.Proofs.Ytpeclgfopincbaa.logWalk Go.Proofs.Ytpeclgfopincbaa.tenths Go.Proofs.Ytpeclgfopincbaa.tenths3 Go.Proofs.Ytpeclgfopincbaa.tenthsBd

theorem gbe {w w' : World} (h : ∃ n, w.drewN n = w') : w.grownBy w' none := by
  obtain ⟨n, rfl⟩ := h
  exact gb_drewN _ _ _
theorem pos_g : True := trivial
theorem tn_yes (p : Nat) (hwf : (Lit.float .f32 p).wf = true) (hb : tnOk p = true) (w : World) : Calls Try.prog 109 #[.float .f32 p] w fun e w' => e = .returned (.tuple #[.int .i64 (tnI p), .bool true]) ∧ w.grownBy w' none := by
  have h := tn_i p w hwf
  have e : tnA p = (tnI p, true) := by unfold tnA; rw [if_pos hb]
  rw [e] at h
  exact h.mono fun _ _ h => ⟨h.1, gbe h.2⟩
theorem tn_no (p : Nat) (hwf : (Lit.float .f32 p).wf = true) (hb : tnOk p = false) (w : World) : Calls Try.prog 109 #[.float .f32 p] w fun e w' => e = .returned (.tuple #[.int .i64 0, .bool false]) ∧ w.grownBy w' none := by
  have h := tn_i p w hwf
  have e : tnA p = (0, false) := by unfold tnA; rw [if_neg (by rw [hb]; decide)]
  rw [e] at h
  exact h.mono fun _ _ h => ⟨h.1, gbe h.2⟩

set_option maxHeartbeats 2000000 in
set_option maxRecDepth 100000 in
theorem lv_spec : True := trivial

theorem lst_set2 (l : List Value) (j : Nat) (a b : Value) : (l.set j a).set j b = l.set j b := List.set_set ..
theorem cls_at (ys : List Int) (j : Nat) (h : j < ys.length) : cls ys j = .int .i64 ys[j] := by unfold cls ints; simp [h]
theorem lvs_at (x : Nat → Nat) (t : Int) (n j : Nat) (h : j < n) : cls (lvs x t n) j = .int .i64 (lvl x t j) := by
  rw [cls_at _ _ (by rw [lvs_len]; exact h)]
  simp [lvs]
theorem run_store_int {P : Program} {w : World} {m : Mode} (a : Addr) (k : IntKind) (x : Int) : (store a (.int k x) m).run P w = stored P w a (.int k x) m := run_store P w a _ m rfl
set_option maxHeartbeats 2000000 in
set_option maxRecDepth 100000 in
theorem lv_impl (ad : Addr) (n c B q : Nat) (x : Nat → Nat) (w : World) (hn : n ≤ 129) (hwf : ∀ j, j < n → (Lit.float .f32 (x j)).wf = true) (hB : B ≤ w.heap.size) (ha : Rd w B (some ad) n (fl x))
    (hq : pkR x n = ((q : Int), true)) (hqn : q < n) (hok : tnOk (x q) = true) :
    Calls Try.prog 31 #[.slice (some ad) n c] w fun e w' => ∃ A' c', e = .returned (.tuple #[.slice A' n c', .bool true]) ∧ w'.ownsRow w.heap.size 2 1 (.slice A' n c') n (lst (cls (lvs x (tnI (x q)) n)) n) ∧ w.grownBy w' none := by
  have hk := fun w hB ha => impl_p (some ad) n c B x w (by omega) hB ha
  rw [hq] at hk
  have hten := fun w => tn_yes (x q) (hwf q hqn) hok w
  obtain ⟨hta, htb⟩ := tn_bd (hwf q hqn) hok
  have hq0 : (0 : Int) ≤ q := by omega
  have hqn' : (q : Int) < n := by omega
  obtain ⟨i0, hi0, hz0, hz1, hz2⟩ := info_parts info64
  have HW := Lib.hid hwf
  generalize tnI (x q) = t at *
  clear hq hok hwf
  go_enter Try.func31, Try.ntmps31
  go_wp2_with fail
  refine (hk _ hB ha).mono ?_
  rintro e w1 ⟨rfl, hg1⟩
  have hc1 : w1.cell? (ad.add q) = some (.float .f32 (x q)) := by
    obtain ⟨ad', e, _, h'⟩ := (ha.kept0 hg1 hB).at_ hqn
    injection e with e; subst e; exact h'
  go_wp2_with fail
  refine (hten _).mono ?_
  rintro e w2 ⟨rfl, hg2⟩
  have g2 := hg1.trans hg2
  clear hc1
  go_wp2_with (at_make; refine wpList_make_full _ rfl _ _ _ rfl w2.heap.size 2 i0 (.int .i64 0) 1 Try.underlying45 hi0 hz0 hz1 _ _ _ _ n rfl rfl rfl rfl (by rw [hz2]; omega) (by unfold maxLen; omega) (Nat.le_refl _) ?_; intro w3 hown3 hg3)
  have g3 := g2.trans hg3
  go_loopw [34] (fun i wr => ∃ j : Nat, j ≤ n ∧ i = .int .i64 j ∧ wr.ownsRow w2.heap.size 2 1 (.slice (some ⟨w2.heap.size, 0, none⟩) n n) n (lst (mix (cls (lvs x t n)) (fun _ => .int .i64 0) j) n) ∧ w.grownBy wr none) (fun i _ => n - (intOf i).toNat)
  case atStart =>
    refine ⟨0, Nat.zero_le _, rfl, ?_, g3⟩
    rw [mix_zero, ← replicate_lst]
    rw [Nat.mul_one] at hown3
    exact (toList_madeCells_one (.int .i64 0) n) ▸ hown3
  case round =>
    obtain ⟨j, hj, rfl, hown, hg⟩ := hrel
    by_cases hlt : j < n
    · have hc : wr.cell? (ad.add j) = some (.float .f32 (x j)) := by
        obtain ⟨ad', e, _, h'⟩ := (ha.kept0 hg hB).at_ hlt
        injection e with e; subst e; exact h'
      have hk0 : (0 : Int) ≤ j := by omega
      have hk1 : (j : Int) < n := by omega
      have hla := lvs_at x t n j hlt
      have hcell := hown.cellAt j (by omega)
      rw [lst_get _ _ _ hlt] at hcell
      have hf := hown.frozenAt j
      obtain ⟨hs1, hs2⟩ := hown.stored j (.int .i64 (-2000))
      have hs2' := gb_new hg hs2 (by intro g e; injection e with e; have := g2.size; omega)
      have HS := Lib.hid hs1
      have HG := Lib.hid hs2'
      clear hs1 hs2' hs2 hown hg
      cases hb : tnOk (x j) with
      | true =>
        have ht := fun w => tn_yes (x j) (HW.out j hlt) hb w
        obtain ⟨htk, htl⟩ := tn_bd (HW.out j hlt) hb
        have hlv : lvl x t j = lv t (tnI (x j)) := by unfold lvl; rw [if_pos hb]
        rw [hlv] at hla
        have HL := Lib.hid hla
        clear hla hlv hb
        generalize tnI (x j) = r at *
        go_wp2_with fail
        refine (ht _).mono ?_
        rintro e w4 ⟨rfl, hg4⟩
        have g4 := HG.out.trans hg4
        have hown4 := own_kept0 HS.out hg4
        have hcell4 := hown4.cellAt j (by omega)
        rw [List.getElem?_set_self (by simp [lst]; exact hlt)] at hcell4
        have hf4 := hown4.frozenAt j
        by_cases hm : r - t < -2000
        · have hl2 : cls (lvs x t n) j = .int .i64 (-2000) := by rw [HL.out]; unfold lv; rw [if_pos hm]
          obtain ⟨hs1, hs2⟩ := hown4.stored j (.int .i64 (-2000))
          have hs2' := gb_new g4 hs2 (by intro g e; injection e with e; have := g2.size; omega)
          rw [lst_set2, ← hl2, mix_set _ _ _ _ hlt, hl2] at hs1
          have HS4 := Lib.hid hs1
          have HG4 := Lib.hid hs2'
          clear hs1 hs2' hs2 hown4 g4 hg4 hcell hf hc hl2
          go_wp2
          go_roundw
          case rel => exact ⟨j + 1, by omega, by go_num, HS4.out, HG4.out⟩
          case measure => simp [intOf]; omega
        · have hl2 : cls (lvs x t n) j = .int .i64 (r - t) := by rw [HL.out]; unfold lv; rw [if_neg hm]
          obtain ⟨hs1, hs2⟩ := hown4.stored j (.int .i64 (r - t))
          have hs2' := gb_new g4 hs2 (by intro g e; injection e with e; have := g2.size; omega)
          rw [lst_set2, ← hl2, mix_set _ _ _ _ hlt, hl2] at hs1
          have HS4 := Lib.hid hs1
          have HG4 := Lib.hid hs2'
          clear hs1 hs2' hs2 hown4 g4 hg4 hcell hf hc hl2
          go_wp2
          go_roundw
          case rel => exact ⟨j + 1, by omega, by go_num, HS4.out, HG4.out⟩
          case measure => simp [intOf]; omega
      | false =>
        have ht := fun w => tn_no (x j) (HW.out j hlt) hb w
        have hlv : lvl x t j = -2000 := by unfold lvl; rw [if_neg (by rw [hb]; decide)]
        rw [hlv] at hla
        have hs3 := HS.out
        rw [← hla, mix_set _ _ _ _ hlt, hla] at hs3
        have HS3 := Lib.hid hs3
        clear hla hlv hb hs3
        go_wp2_with fail
        refine (ht _).mono ?_
        rintro e w4 ⟨rfl, hg4⟩
        have g4 := HG.out.trans hg4
        have hown4 := own_kept0 HS3.out hg4
        clear hcell hf hc
        go_wp2_with fail
        go_roundw
        case rel => exact ⟨j + 1, by omega, by go_num, hown4, g4⟩
        case measure => simp [intOf]; omega
    · obtain rfl : j = n := by omega
      go_wp2_with fail
      go_ret2
      exact ⟨_, _, rfl, by rw [← mix_full]; exact own_mono hown g2.size, hg⟩

end Go.Proofs.Ytpeclgfopincbaa.levels

namespace Go.Proofs.Ytpeclgfopincbaa.lobesI
open Go.ChangeShapes Go.WideShapes Go.ChangeAt Go.RowKit
open Go.ChangeMaps (open_string shut_string)
set_option linter.unusedVariables false
open Go Ieee Go.RowKit
open Go.Proofs.Ytpeclgfopincbaa.slc Go.Proofs.Ytpeclgfopincbaa.small Go.Proofs.Ytpeclgfopincbaa.listI Go.Proofs.Ytpeclgfopincbaa.cut Go.Proofs.Ytpeclgfopincbaa.listF Go.Proofs.Ytpeclgfopincbaa.peak Go.Proofs.Ytpeclgfopincbaa.runs Go.Proofs.Ytpeclgfopincbaa.runs2 Go.Proofs.Ytpeclgfopincbaa.runs3 Go.Proofs.Ytpeclgfopincbaa.markF

theorem rb_no_l (A : Option Addr) (n c : Nat) (w : World) (h : n < 1 ∨ 129 < n) (hm : n ≤ 9223372036854775807) :
    Calls Try.prog 106 #[.slice A n c, .func (.func 107) #[] #[]] w fun e w' => e = .returned (.tuple #[.slice none 0 0, .bool false]) ∧ w = w' := by
  go_enter Try.func106, Try.ntmps106
  go_wp2_with fail
  refine (cut_no _ _ _ _ h hm).mono ?_
  rintro e w' ⟨rfl, rfl⟩
  go_wp2_with fail
  go_ret2
  exact ⟨rfl, rfl⟩

theorem lobes_c (x : Nat → Nat) (n : Nat) : GvF 26 x n (runsT true x n).1 (runsT true x n).2 := by
  intro A c B w hm hr hB
  unfold runsT
  by_cases h : 1 ≤ n ∧ n ≤ 129
  · rw [if_pos h]
    obtain ⟨ad, rfl, _, _⟩ := hr.at_ h.1
    have hc := fun w hB ha => lobe_impl ad n c B x w h.1 h.2 hB ha
    rw [← cls_lst] at hc
    generalize runs true x n n 0 = ys at hc ⊢
    go_enter Try.func26, Try.ntmps26
    go_wp2_with fail
    refine (hc _ hB hr).mono ?_
    rintro e w' ⟨A', c', rfl, ho, hg⟩
    go_wp2_with fail
    go_ret2
    exact ⟨_, _, rfl, ho, hg⟩
  · rw [if_neg h]
    go_enter Try.func26, Try.ntmps26
    go_wp2_with fail
    refine (rb_no_l _ _ _ _ (by omega) hm).mono ?_
    rintro e w' ⟨rfl, rfl⟩
    go_wp2_with fail
    go_ret2
    exact ⟨none, 0, rfl, World.ownsRow_nil _ _ _ _, World.grownBy.refl _ _⟩

theorem rb_no_d (A : Option Addr) (n c : Nat) (w : World) (h : n < 1 ∨ 129 < n) (hm : n ≤ 9223372036854775807) :
    Calls Try.prog 106 #[.slice A n c, .func (.func 108) #[] #[]] w fun e w' => e = .returned (.tuple #[.slice none 0 0, .bool false]) ∧ w = w' := by
  go_enter Try.func106, Try.ntmps106
  go_wp2_with fail
  refine (cut_no _ _ _ _ h hm).mono ?_
  rintro e w' ⟨rfl, rfl⟩
  go_wp2_with fail
  go_ret2
  exact ⟨rfl, rfl⟩

theorem dips_c (x : Nat → Nat) (n : Nat) : GvF 27 x n (runsT false x n).1 (runsT false x n).2 := by
  intro A c B w hm hr hB
  unfold runsT
  by_cases h : 1 ≤ n ∧ n ≤ 129
  · rw [if_pos h]
    obtain ⟨ad, rfl, _, _⟩ := hr.at_ h.1
    have hc := fun w hB ha => dip_impl ad n c B x w h.1 h.2 hB ha
    rw [← cls_lst] at hc
    generalize runs false x n n 0 = ys at hc ⊢
    go_enter Try.func27, Try.ntmps27
    go_wp2_with fail
    refine (hc _ hB hr).mono ?_
    rintro e w' ⟨A', c', rfl, ho, hg⟩
    go_wp2_with fail
    go_ret2
    exact ⟨_, _, rfl, ho, hg⟩
  · rw [if_neg h]
    go_enter Try.func27, Try.ntmps27
    go_wp2_with fail
    refine (rb_no_d _ _ _ _ (by omega) hm).mono ?_
    rintro e w' ⟨rfl, rfl⟩
    go_wp2_with fail
    go_ret2
    exact ⟨none, 0, rfl, World.ownsRow_nil _ _ _ _, World.grownBy.refl _ _⟩

end Go.Proofs.Ytpeclgfopincbaa.lobesI

namespace Go.Proofs.Ytpeclgfopincbaa.levelsI
open Go.ChangeShapes Go.WideShapes Go.ChangeAt Go.RowKit
open Go.ChangeMaps (open_string shut_string)
set_option linter.unusedVariables false
open Go Ieee Go.RowKit
open Go.Proofs.Ytpeclgfopincbaa.slc Go.Proofs.Ytpeclgfopincbaa.small Go.Proofs.Ytpeclgfopincbaa.listI Go.Proofs.Ytpeclgfopincbaa.cut Go.Proofs.Ytpeclgfopincbaa.listF Go.Proofs.Ytpeclgfopincbaa.peak Go.Proofs.Ytpeclgfopincbaa.markF Go.Proofs.Ytpeclgfopincbaa.logWalk Go.Proofs.Ytpeclgfopincbaa.tenths3 Go.Proofs.Ytpeclgfopincbaa.tenthsBd Go.Proofs.Ytpeclgfopincbaa.levels

/-- The answers. -/
def lvT (x : Nat → Nat) (n : Nat) : List Int × Bool :=
  if (1 ≤ n ∧ n ≤ 129) ∧ 0 ≤ pkI x n ∧ tnOk (x (pkI x n).toNat) = true then (lvs x (tnI (x (pkI x n).toNat)) n, true) else ([], false)
theorem lvT_len (x : Nat → Nat) (n : Nat) : (lvT x n).1.length ≤ n := by
  unfold lvT
  split
  · exact Nat.le_of_eq (lvs_len _ _ _)
  · exact Nat.zero_le _
theorem cls_n (x : Nat → Nat) (t : Int) (n : Nat) : lst (cls (lvs x t n)) n = ints (lvs x t n) := by
  have := cls_lst (lvs x t n)
  rwa [lvs_len] at this

set_option maxHeartbeats 1000000 in
theorem levels_c (x : Nat → Nat) (n : Nat) (hwf : ∀ j, j < n → (Lit.float .f32 (x j)).wf = true) : GvF 31 x n (lvT x n).1 (lvT x n).2 := by
  intro A c B w hm hr hB
  unfold lvT
  have hbd := pkI_bd x n
  have hk := fun w hB ha => impl_p A n c B x w hm hB ha
  by_cases h : (1 ≤ n ∧ n ≤ 129) ∧ 0 ≤ pkI x n
  · obtain ⟨ad, rfl, _, _⟩ := hr.at_ h.1.1
    obtain ⟨q, hq⟩ : ∃ q : Nat, pkI x n = (q : Int) := ⟨(pkI x n).toNat, by omega⟩
    have hR : pkR x n = ((q : Int), true) := by unfold pkR; rw [if_pos h, hq]
    have hqn : q < n := by omega
    have hq3 : (pkI x n).toNat = q := by omega
    rw [hq3]
    by_cases hok : tnOk (x q) = true
    · rw [if_pos ⟨h.1, h.2, hok⟩]
      dsimp only
      rw [lvs_len]
      exact lv_impl ad n c B q x w h.1.2 hwf hB hr hR hqn hok
    · rw [if_neg (fun h => hok h.2.2)]
      rw [hR] at hk
      have hten := fun w => tn_no (x q) (hwf q hqn) (by simpa using hok) w
      have hq0 : (0 : Int) ≤ q := by omega
      have hqn' : (q : Int) < n := by omega
      clear hq hok hwf hq3 hbd hR
      go_enter Try.func31, Try.ntmps31
      go_wp2_with fail
      refine (hk _ hB hr).mono ?_
      rintro e w1 ⟨rfl, hg1⟩
      have hc1 : w1.cell? (ad.add q) = some (.float .f32 (x q)) := by
        obtain ⟨ad', e, _, h'⟩ := (hr.kept0 hg1 hB).at_ hqn
        injection e with e; subst e; exact h'
      go_wp2_with fail
      refine (hten _).mono ?_
      rintro e w2 ⟨rfl, hg2⟩
      have g2 := hg1.trans hg2
      go_wp2_with fail
      go_ret2
      exact ⟨none, 0, rfl, World.ownsRow_nil _ _ _ _, g2⟩
  · have hR : pkR x n = (0, false) := by unfold pkR; rw [if_neg h]
    rw [if_neg (fun h' => h ⟨h'.1, h'.2.1⟩)]
    rw [hR] at hk
    clear hwf hbd hR h
    go_enter Try.func31, Try.ntmps31
    go_wp2_with fail
    refine (hk _ hB hr).mono ?_
    rintro e w1 ⟨rfl, hg1⟩
    go_wp2_with fail
    go_ret2
    exact ⟨none, 0, rfl, World.ownsRow_nil _ _ _ _, hg1⟩

end Go.Proofs.Ytpeclgfopincbaa.levelsI
