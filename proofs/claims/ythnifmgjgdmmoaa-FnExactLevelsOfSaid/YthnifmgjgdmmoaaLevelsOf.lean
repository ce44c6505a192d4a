/- The law on LevelsOf answers true at every list of numbers. No condition. -/
import Derived.Test.YthnifmgjgdmmoaaRows
import Derived.Test.YthnifmgjgdmmoaaSlc
import Derived.Test.YthnifmgjgdmmoaaSmall
import Derived.Test.YthnifmgjgdmmoaaListI
import Derived.Test.YthnifmgjgdmmoaaFloats
import Derived.Test.YthnifmgjgdmmoaaRound
import Derived.Test.YthnifmgjgdmmoaaValues
import Derived.Test.YthnifmgjgdmmoaaConv
import Derived.Test.YthnifmgjgdmmoaaFWalk
import Derived.Test.YthnifmgjgdmmoaaCut
import Derived.Test.YthnifmgjgdmmoaaListF
import Derived.Test.YthnifmgjgdmmoaaPeak
import Derived.Test.YthnifmgjgdmmoaaRuns
import Derived.Test.YthnifmgjgdmmoaaMarkF
import Derived.Test.YthnifmgjgdmmoaaFinWalk
import Derived.Test.YthnifmgjgdmmoaaFloat2
import Derived.Test.YthnifmgjgdmmoaaFloat3
import Derived.Test.YthnifmgjgdmmoaaPhase
import Derived.Test.YthnifmgjgdmmoaaSine
import Derived.Test.YthnifmgjgdmmoaaFinBoth
import Derived.Test.YthnifmgjgdmmoaaLogNum
import Derived.Test.YthnifmgjgdmmoaaLogWalk
import Derived.Test.YthnifmgjgdmmoaaTenths
import Derived.Test.YthnifmgjgdmmoaaTenths2
import Derived.Test.YthnifmgjgdmmoaaTenths3
import Derived.Test.YthnifmgjgdmmoaaTenthsBd
import Derived.Test.YthnifmgjgdmmoaaLevels
import Derived.WalkKit
import Derived.ProofKit
import Derived.OpenShut
import Derived.ShutString
import Derived.ChangeOld
import Derived.Below
import Derived.Lib.Hide
import Derived.BigQuiet
import Derived.Deep.QuietTactic
import Derived.WalkLawsBesides
import Derived.Outline
import Derived.Deep.LoopGhost
namespace Go.Proofs.Ythnifmgjgdmmoaa.levelsOf
open Go.ChangeShapes Go.WideShapes Go.ChangeAt Go.RowKit
open Go.ChangeMaps (open_string shut_string)
set_option linter.unusedVariables false
theorem own : ownKnob Try.prog.godebug = none := by kernel_rfl
theorem laidOut : laidOutB Try.prog = true := by kernel_rfl
open Go Ieee Go.RowKit
open Go.Proofs.Ythnifmgjgdmmoaa.slc Go.Proofs.Ythnifmgjgdmmoaa.small Go.Proofs.Ythnifmgjgdmmoaa.listI Go.Proofs.Ythnifmgjgdmmoaa.cut Go.Proofs.Ythnifmgjgdmmoaa.listF Go.Proofs.Ythnifmgjgdmmoaa.peak Go.Proofs.Ythnifmgjgdmmoaa.markF Go.Proofs.Ythnifmgjgdmmoaa.logWalk Go.Proofs.Ythnifmgjgdmmoaa.tenths3 Go.Proofs.Ythnifmgjgdmmoaa.tenthsBd Go.Proofs.Ythnifmgjgdmmoaa.levels

/-- The answers. -/
def lvT (x : Nat → Nat) (n : Nat) : List Int × Bool :=
  if (1 ≤ n ∧ n ≤ 129) ∧ 0 ≤ pkI x n ∧ tnOk (x (pkI x n).toNat) = true then (lvs x (tnI (x (pkI x n).toNat)) n, true) else ([], false)
theorem lvT_len (x : Nat → Nat) (n : Nat) : (lvT x n).1.length ≤ n := by
  unfold lvT
  split
  · exact Nat.le_of_eq (lvs_len _ _ _)
  · exact Nat.zero_le _
theorem cls_n (x : Nat → Nat) (t : Int) (n : Nat) : lst (cls (lvs x t n)) n = ints (lvs x t n) := by
  have := cls_lst (lvs x t n)
  rwa [lvs_len] at this

set_option maxHeartbeats 1000000 in
theorem spec_c (x : Nat → Nat) (n : Nat) (hwf : ∀ j, j < n → (Lit.float .f32 (x j)).wf = true) : GvF 34 x n (lvT x n).1 (lvT x n).2 := by
  intro A c B w hm hr hB
  unfold lvT
  have hbd := pkI_bd x n
  by_cases h : 1 ≤ n ∧ n ≤ 129
  · obtain ⟨ad, rfl, _, _⟩ := hr.at_ h.1
    by_cases hp : 0 ≤ pkI x n
    · obtain ⟨q, hq⟩ : ∃ q : Nat, pkI x n = (q : Int) := ⟨(pkI x n).toNat, by omega⟩
      have hqn : q < n := by omega
      have hq3 : (pkI x n).toNat = q := by omega
      rw [hq3]
      by_cases hok : tnOk (x q) = true
      · rw [if_pos ⟨h, hp, hok⟩]
        dsimp only
        rw [lvs_len, cls_n]
        exact lv_spec ad n c B q x w h.2 hwf hB hr hq hqn hok
      · rw [if_neg (fun h => hok h.2.2)]
        have hk := fun w hB ha => peak_spec (some ad) n c B x w h.2 hB ha
        rw [hq] at hk
        have hpos := fun w => pos_g (x q) false (by simpa using hok) w
        have hq0 : (0 : Int) ≤ q := by omega
        have hqn' : (q : Int) < n := by omega
        clear hq hok hwf hq3 hp hbd
        go_enter Try.func34, Try.ntmps34
        go_wp2_with fail
        refine (few_yes _ _ _ _ h.1 h.2).mono ?_
        rintro e w' ⟨rfl, rfl⟩
        go_wp2_with fail
        refine (hk _ hB hr).mono ?_
        rintro e w1 ⟨rfl, hg1⟩
        have hc1 : w1.cell? (ad.add q) = some (.float .f32 (x q)) := by
          obtain ⟨ad', e, _, h'⟩ := (hr.kept0 hg1 hB).at_ hqn
          injection e with e; subst e; exact h'
        go_wp2_with fail
        refine (hpos _).mono ?_
        rintro e w2 ⟨rfl, hg2⟩
        have g2 := hg1.trans hg2
        go_wp2_with fail
        go_ret2
        exact ⟨none, 0, rfl, World.ownsRow_nil _ _ _ _, g2⟩
    · rw [if_neg (fun h => hp h.2.1)]
      have hk := fun w hB ha => peak_spec (some ad) n c B x w h.2 hB ha
      have hp' : pkI x n < 0 := by omega
      clear hp hwf hbd
      generalize pkI x n = p at *
      go_enter Try.func34, Try.ntmps34
      go_wp2_with fail
      refine (few_yes _ _ _ _ h.1 h.2).mono ?_
      rintro e w' ⟨rfl, rfl⟩
      go_wp2_with fail
      refine (hk _ hB hr).mono ?_
      rintro e w1 ⟨rfl, hg1⟩
      go_wp2_with fail
      go_ret2
      exact ⟨none, 0, rfl, World.ownsRow_nil _ _ _ _, hg1⟩
  · rw [if_neg (fun h' => h h'.1)]
    clear hwf hbd
    go_enter Try.func34, Try.ntmps34
    go_wp2_with fail
    refine (few_no _ _ _ _ (by omega) hm).mono ?_
    rintro e w' ⟨rfl, rfl⟩
    go_wp2_with fail
    go_ret2
    exact ⟨none, 0, rfl, World.ownsRow_nil _ _ _ _, World.grownBy.refl _ _⟩

set_option maxHeartbeats 1000000 in
theorem impl_c (x : Nat → Nat) (n : Nat) (hwf : ∀ j, j < n → (Lit.float .f32 (x j)).wf = true) : GvF 35 x n (lvT x n).1 (lvT x n).2 := by
  intro A c B w hm hr hB
  unfold lvT
  have hbd := pkI_bd x n
  have hk := fun w hB ha => impl_p A n c B x w hm hB ha
  by_cases h : (1 ≤ n ∧ n ≤ 129) ∧ 0 ≤ pkI x n
  · obtain ⟨ad, rfl, _, _⟩ := hr.at_ h.1.1
    obtain ⟨q, hq⟩ : ∃ q : Nat, pkI x n = (q : Int) := ⟨(pkI x n).toNat, by omega⟩
    have hR : pkR x n = ((q : Int), true) := by unfold pkR; rw [if_pos h, hq]
    have hqn : q < n := by omega
    have hq3 : (pkI x n).toNat = q := by omega
    rw [hq3]
    by_cases hok : tnOk (x q) = true
    · rw [if_pos ⟨h.1, h.2, hok⟩]
      dsimp only
      rw [lvs_len]
      exact lv_impl ad n c B q x w h.1.2 hwf hB hr hR hqn hok
    · rw [if_neg (fun h => hok h.2.2)]
      rw [hR] at hk
      have hten := fun w => tn_no (x q) (hwf q hqn) (by simpa using hok) w
      have hq0 : (0 : Int) ≤ q := by omega
      have hqn' : (q : Int) < n := by omega
      clear hq hok hwf hq3 hbd hR
      go_enter Try.func35, Try.ntmps35
      go_wp2_with fail
      refine (hk _ hB hr).mono ?_
      rintro e w1 ⟨rfl, hg1⟩
      have hc1 : w1.cell? (ad.add q) = some (.float .f32 (x q)) := by
        obtain ⟨ad', e, _, h'⟩ := (hr.kept0 hg1 hB).at_ hqn
        injection e with e; subst e; exact h'
      go_wp2_with fail
      refine (hten _).mono ?_
      rintro e w2 ⟨rfl, hg2⟩
      have g2 := hg1.trans hg2
      go_wp2_with fail
      go_ret2
      exact ⟨none, 0, rfl, World.ownsRow_nil _ _ _ _, g2⟩
  · have hR : pkR x n = (0, false) := by unfold pkR; rw [if_neg h]
    rw [if_neg (fun h' => h ⟨h'.1, h'.2.1⟩)]
    rw [hR] at hk
    clear hwf hbd hR h
    go_enter Try.func35, Try.ntmps35
    go_wp2_with fail
    refine (hk _ hB hr).mono ?_
    rintro e w1 ⟨rfl, hg1⟩
    go_wp2_with fail
    go_ret2
    exact ⟨none, 0, rfl, World.ownsRow_nil _ _ _ _, hg1⟩

set_option maxHeartbeats 800000 in
set_option maxRecDepth 100000 in
theorem law (A : Option Addr) (n c : Nat) (x : Nat → Nat) (xs : List Int) (ok : Bool) (w : World) (hm : n ≤ 9223372036854775807) (hl : xs.length ≤ 65536) (hr : Rd w w.heap.size A n (fl x))
    (hs : GvF 34 x n xs ok) (hi : GvF 35 x n xs ok) :
    Calls Try.prog 9 #[.slice A n c] w fun e w' => e = .returned (.bool true) ∧ Below w.heap.size w w' := by
  have hx : Ints (cls xs) xs.length := Ints.of xs xs.length (Nat.le_refl _)
  have HS := Lib.hid hs
  have HI := Lib.hid hi
  clear hs hi
  by_cases hlen : n ≤ 1048576
  · have hlen' : (n : Int) ≤ 1048576 := by omega
    go_enter Try.func9, Try.ntmps9
    go_wp2_with fail
    refine (toF _ _ _ _ _ (by omega) hr).mono ?_
    rintro e w1 ⟨A1, c1, rfl, ho1, hg1⟩
    have R1 := Rd.of_lst ho1 (Nat.mul_one _).symm
    go_wp2_with fail
    refine (HS.out _ _ _ _ hm R1 (Nat.le_refl _)).mono ?_
    rintro e w2 ⟨A2, c2, rfl, ho2, hg2⟩
    have S2 := Rd.of_lst ho2 (Nat.mul_one _).symm
    have g2 := hg1.trans hg2
    go_wp2_with fail
    refine (toF _ _ _ _ _ (by omega) ((hr.kept0 g2 (Nat.le_refl _)).mono g2.size)).mono ?_
    rintro e w3 ⟨A3, c3, rfl, ho3, hg3⟩
    have R3 := Rd.of_lst ho3 (Nat.mul_one _).symm
    have g3 := g2.trans hg3
    go_wp2_with fail
    refine (HI.out _ _ _ _ hm R3 (Nat.le_refl _)).mono ?_
    rintro e w4 ⟨A4, c4, rfl, ho4, hg4⟩
    have R4 := Rd.of_lst ho4 (Nat.mul_one _).symm
    have g4 := g3.trans hg4
    have S4 := (S2.kept0 (hg3.trans hg4) (Nat.le_refl _)).mono (hg3.trans hg4).size
    go_wp2_with fail
    refine (eqI_true _ _ _ _ _ _ _ _ (by omega) hx R4 S4).mono ?_
    rintro e w5 ⟨rfl, hg5⟩
    have g5 := g4.trans hg5
    go_wp2_with fail
    refine (toF _ _ _ _ _ (by omega) ((hr.kept0 g5 (Nat.le_refl _)).mono g5.size)).mono ?_
    rintro e w6 ⟨A6, c6, rfl, ho6, hg6⟩
    have R6 := Rd.of_lst ho6 (Nat.mul_one _).symm
    have h36 := (hg4.trans hg5).trans hg6
    have R36 := (R3.kept0 h36 (Nat.le_refl _)).mono h36.size
    have g6 := g5.trans hg6
    go_wp2_with fail
    refine (eqF_true _ _ _ _ _ _ _ _ hm (Nat.le_refl _) R36 R6).mono ?_
    rintro e w7 ⟨rfl, hg7⟩
    have g7 := g6.trans hg7
    have ho37 := own_kept0 ho3 (h36.trans hg7)
    go_wp2_with fail
    refine (markF1 _ _ _ _ _ _ _ (by omega) ho37).mono ?_
    rintro e w8 ⟨rfl, hg8⟩
    have h47 := (hg5.trans hg6).trans hg7
    have ho47 := own_kept0 ho4 h47
    have b3 := own_base ho3
    have b4 := own_base ho4
    have hsz34 := hg4.size
    have hn34 : (Value.slice A4 xs.length c4).ownBlock ≠ A3.map Addr.block ∨ (Value.slice A4 xs.length c4).ownBlock = none := by
      cases h4 : (Value.slice A4 xs.length c4).ownBlock with
      | none => exact .inr rfl
      | some b =>
        refine .inl fun e => ?_
        rw [own_blk] at h4
        have x1 := (b4 b h4).1
        have x2 := (b3 b e.symm).2
        omega
    have ho48 := ho47.kept hg8 hn34.symm
    have R48 := Rd.of_lst ho48 (Nat.mul_one _).symm
    have S7 := S2.kept0 ((hg3.trans hg4).trans h47) (Nat.le_refl _)
    have hsz27 := ((hg3.trans hg4).trans h47).size
    have S8 := S7.kept hg8 hsz27 (far_of ho3 (Nat.le_refl _))
    have hsz28 := Nat.le_trans hsz27 hg8.size
    have g8 := gb_new g7 hg8 (base_of ho3 g2.size)
    go_wp2_with fail
    refine (eqI_true _ _ _ _ _ _ _ _ (by omega) hx R48 (S8.mono hsz28)).mono ?_
    rintro e w9 ⟨rfl, hg9⟩
    have g9 := g8.trans hg9
    have ho49 := own_kept0 ho48 hg9
    have S9 := S8.kept0 hg9 hsz28
    have hsz29 := Nat.le_trans hsz28 hg9.size
    go_wp2_with fail
    refine (markI1 _ _ _ _ _ _ _ (by omega) ho49).mono ?_
    rintro e w10 ⟨rfl, ho10, hg10⟩
    have S10 := S9.kept hg10 hsz29 (far_of ho4 (Nat.le_trans hg3.size (Nat.le_refl _)))
    have hsz210 := Nat.le_trans hsz29 hg10.size
    have M10 := Rd.of_lst ho10 (Nat.mul_one _).symm
    have g10 := gb_new g9 hg10 (base_of ho4 g3.size)
    go_wp2_with fail
    refine (heldI1 _ _ _ _ _ (by omega) M10).mono ?_
    rintro e w' ⟨rfl, rfl⟩
    have r10 := (hr.kept0 g10 (Nat.le_refl _)).mono g10.size
    go_wp2_with fail
    refine (toF _ _ _ _ _ (by omega) r10).mono ?_
    rintro e w11 ⟨A11, c11, rfl, ho11, hg11⟩
    have R11 := Rd.of_lst ho11 (Nat.mul_one _).symm
    go_wp2_with fail
    refine (HI.out _ _ _ _ hm R11 (Nat.le_refl _)).mono ?_
    rintro e w12 ⟨A12, c12, rfl, ho12, hg12⟩
    have R12 := Rd.of_lst ho12 (Nat.mul_one _).symm
    have S12 := (S10.kept0 (hg11.trans hg12) hsz210).mono (Nat.le_trans hsz210 (hg11.trans hg12).size)
    go_wp2_with fail
    refine (eqI_true _ _ _ _ _ _ _ _ (by omega) hx R12 S12).mono ?_
    rintro e w13 ⟨rfl, hg13⟩
    have M13 := M10.kept0 ((hg11.trans hg12).trans hg13) (Nat.le_refl _)
    go_wp2_with fail
    refine (heldI1 _ _ _ _ _ (by omega) M13).mono ?_
    rintro e w' ⟨rfl, rfl⟩
    go_wp2_with fail
    go_ret
    exact ⟨rfl, gb_below (g10.trans ((hg11.trans hg12).trans hg13))⟩
  · have hlen' : (1048576 : Int) < n := by omega
    go_enter Try.func9, Try.ntmps9
    go_wp2_with fail
    go_ret
    exact ⟨rfl, Below.refl _ _⟩

theorem walk (a0 : Option Addr) (len0 cap0 : Nat) (z0 : Nat → Nat) (w : World) (l0 : len0 ≤ cap0) (m0 : cap0 ≤ maxLen) (w0 : ∀ j, j < len0 → (Lit.float .f32 (z0 j)).wf = true) (r0 : Rd w w.heap.size a0 len0 (fl z0)) :
    Calls Try.prog 9 #[.slice a0 len0 cap0] w fun e w' => e = .returned (.bool true) ∧ Below w.heap.size w w' := by
  unfold maxLen at m0
  refine law a0 len0 cap0 z0 _ _ w (by omega) ?_ r0 (spec_c z0 len0 w0) (impl_c z0 len0 w0)
  unfold lvT
  split
  · rename_i h; rw [lvs_len]; omega
  · exact Nat.zero_le _

set_option maxRecDepth 100000 in
theorem lifted (os : Os) (started : os.Started) (H : Type) (enc : TypeId × Value → H) :
    ReturnsInHanded {} Try.checked os 9 .any (Rows.fnExactLevelsOfSpec.pre6 enc Try.prog Try.f9 Rows.fnExactLevelsOfRow.domain false) (Rows.fnExactLevelsOfSpec.post enc Try.prog Try.f9 false true false false) := by
  refine returnsInHanded_of_change (C := Try.checked) own started (by kernel_rfl) Try.func9
    (ChangeSpec.witness6 (enc := enc) (C := Try.checked) false ⟨#[], #[.slice none 0 0], []⟩ 8 (by kernel_rfl) (by kernel_rfl) (by kernel_rfl) (by kernel_rfl)) ?_
  intro W base args ds gs before hval0 hW hcnd _
  have hval : ∀ (j : Nat) t v, Try.f9.params[j]? = some t → args[j]? = some v → Value.okWide Try.prog W .any base t v := hval0
  have hW' := hW
  obtain ⟨p, q, hA0, hV, rfl, hfz, hnd⟩ := hW
  have hA : DataW.TrodAll enc Try.prog W 0 (fun _ => true) true Try.f9.params.toList args.toList ds p := hA0
  rw [Try.params9] at hA hval
  obtain ⟨v0, vs0, d0, ds0, p0, q0, hargs, rfl, rfl, h0, r0⟩ := trodAll_cons hA
  obtain ⟨rfl, rfl, rfl⟩ := trodAll_nil r0
  obtain rfl : args = #[v0] := by cases args; simp_all
  obtain ⟨rfl, rfl⟩ := trodVars_none hV
  obtain ⟨a0, len0, cap0, rfl⟩ := okWide_slice Try.underlying22 (hval 0 22 v0 rfl rfl)
  have k0 := h0
  have lt0 : ∀ x ∈ p0, x.block < W.heap.size := by obtain ⟨m, hm⟩ := k0; exact DataW.trod_lt m _ _ _ hm
  obtain ⟨z0, l0, m0, w0, r0'⟩ := opened_floats Try.underlying22 Try.underlying37 (by kernel_rfl) k0
  clear hA0 hval0
  refine (walk a0 len0 cap0 z0 W l0 m0 w0 r0').mono fun e W' ⟨he, bel⟩ => ?_
  subst he
  exact ⟨_, rfl, _, _, _, [], _, [], hW', trodAll_mk1 (shut_bool Try.underlying4 _), (trodAll_cons_mk (Below.trod laidOut (by kernel_rfl) (of_decide_eq_true (by kernel_rfl)) k0 bel lt0) trodAll_mk0), rfl, bel.frame _, fun h => by cases h⟩

theorem over : Rows.fnExactLevelsOfRow.holds Try.pinned (OpenSpec.ofChange Rows.fnExactLevelsOfSpec) :=
  OpenClaim.holds_of_wide 9 Try.f9 rfl rfl rfl rfl rfl rfl rfl ⟨rfl, rfl, rfl, rfl, rfl⟩ rfl rfl rfl rfl rfl (by kernel_rfl) Try.func9 (by kernel_rfl)
    (of_decide_eq_true (by kernel_rfl)) (by unfold Func.isWrapper; first | (rw [if_pos (by decide +kernel)]; kernel_rfl) | (rw [if_neg (by decide +kernel)]; exact ⟨rfl, rfl⟩))
    (fun os started H enc _ => lifted os started H enc)

theorem proved : Rows.FnExactLevelsOfSaid := over
#print axioms proved
end Go.Proofs.Ythnifmgjgdmmoaa.levelsOf
