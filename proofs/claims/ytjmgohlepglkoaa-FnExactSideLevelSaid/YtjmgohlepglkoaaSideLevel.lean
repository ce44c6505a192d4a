/- The law on SideLevel answers true at every list of numbers and every index. No condition. -/
import Derived.Test.YtjmgohlepglkoaaRows
import Derived.Test.YtjmgohlepglkoaaSlc
import Derived.Test.YtjmgohlepglkoaaSmall
import Derived.Test.YtjmgohlepglkoaaFloats
import Derived.Test.YtjmgohlepglkoaaRound
import Derived.Test.YtjmgohlepglkoaaValues
import Derived.Test.YtjmgohlepglkoaaConv
import Derived.Test.YtjmgohlepglkoaaFWalk
import Derived.Test.YtjmgohlepglkoaaCut
import Derived.Test.YtjmgohlepglkoaaSideNum
import Derived.Test.YtjmgohlepglkoaaListF
import Derived.Test.YtjmgohlepglkoaaPeak
import Derived.Test.YtjmgohlepglkoaaReach
import Derived.Test.YtjmgohlepglkoaaReach2
import Derived.Test.YtjmgohlepglkoaaSide
import Derived.Test.YtjmgohlepglkoaaConcatF
import Derived.Test.YtjmgohlepglkoaaSide2
import Derived.WalkKit
import Derived.ProofKit
import Derived.OpenShut
import Derived.ShutString
import Derived.ChangeOld
import Derived.Below
import Derived.Lib.Hide
import Derived.BigQuiet
import Derived.Deep.QuietTactic
import Derived.WalkLawsBesides
import Derived.Outline
import Derived.Deep.RegionHeld3
namespace Go.Proofs.Ytjmgohlepglkoaa.sideLevel
open Go.ChangeShapes Go.WideShapes Go.ChangeAt Go.RowKit
open Go.ChangeMaps (open_string shut_string)
set_option linter.unusedVariables false
theorem own : ownKnob Try.prog.godebug = none := by kernel_rfl
theorem laidOut : laidOutB Try.prog = true := by kernel_rfl
open Go Ieee Go.RowKit
open Go.Proofs.Ytjmgohlepglkoaa.slc Go.Proofs.Ytjmgohlepglkoaa.small Go.Proofs.Ytjmgohlepglkoaa.floats Go.Proofs.Ytjmgohlepglkoaa.conv Go.Proofs.Ytjmgohlepglkoaa.cut Go.Proofs.Ytjmgohlepglkoaa.sideNum Go.Proofs.Ytjmgohlepglkoaa.listF Go.Proofs.Ytjmgohlepglkoaa.peak Go.Proofs.Ytjmgohlepglkoaa.reach2 Go.Proofs.Ytjmgohlepglkoaa.side Go.Proofs.Ytjmgohlepglkoaa.side2

/-- What is returned. -/
def sdT (x : Nat → Nat) (n : Nat) (a : Int) : Nat × Bool :=
  if (1 ≤ n ∧ n ≤ 129) ∧ 0 ≤ a ∧ a ≤ (n : Int) - 1 then sdR x (reach (mR x) n a.toNat).1 (reach (mR x) n a.toNat).2 n else (0, false)
theorem reach_bd (x : Nat → Nat) (n k : Nat) (h : k < n) : (reach (mR x) n k).1 ≤ k ∧ k ≤ (reach (mR x) n k).2 ∧ (reach (mR x) n k).2 < n := by
  have h1 := lo_le (mR x) k
  have h2 := hi_bd (mR x) (n - 1 - k) k
  unfold reach
  exact ⟨h1, h2.1, by dsimp only; omega⟩

set_option maxHeartbeats 400000 in
theorem spec_t (A : Option Addr) (n c B : Nat) (a : Int) (x : Nat → Nat) (w : World) (hm : n ≤ 9223372036854775807) (hB : B ≤ w.heap.size) (ha : Rd w B A n (fl x)) :
    Calls Try.prog 34 #[.slice A n c, .int .i64 a] w fun e w' => e = .returned (.tuple #[.float .f32 (sdT x n a).1, .bool (sdT x n a).2]) ∧ w.grownBy w' none := by
  by_cases h : (1 ≤ n ∧ n ≤ 129) ∧ 0 ≤ a ∧ a ≤ (n : Int) - 1
  · obtain ⟨k, rfl⟩ : ∃ k : Nat, a = (k : Int) := ⟨a.toNat, by omega⟩
    have hk : k < n := by omega
    obtain ⟨ad, rfl, _, _⟩ := ha.at_ hk
    obtain ⟨b1, b2, b3⟩ := reach_bd x n k hk
    have hT : sdT x n k = sdR x (reach (mR x) n k).1 (reach (mR x) n k).2 n := by unfold sdT; rw [if_pos h]; rfl
    rw [hT]
    refine (side_spec ad n c B k (reach (mR x) n k).1 (reach (mR x) n k).2 x w (by omega) hk hB ha rfl (by omega) (by omega)).mono ?_
    rintro e w' ⟨rfl, hg⟩
    refine ⟨?_, hg⟩
    unfold sdR
    split
    · rename_i h0; rw [decide_eq_true h0]
    · rename_i h0; rw [decide_eq_false h0]
  · have hT : sdT x n a = (0, false) := by unfold sdT; rw [if_neg h]
    rw [hT]
    clear hT
    by_cases hn : 1 ≤ n ∧ n ≤ 129
    · have h' : a < 0 ∨ (n : Int) - 1 < a := by omega
      have p2 : (0 : Int) ≤ (n : Int) - 1 := by omega
      have p3 : (n : Int) ≤ 129 := by omega
      clear h
      go_enter Try.func34, Try.ntmps34
      go_wp2_with fail
      refine (few_yes _ _ _ _ hn.1 hn.2).mono ?_
      rintro e w' ⟨rfl, rfl⟩
      go_wp2_with fail
      refine (in_no _ _ _ _ h').mono ?_
      rintro e w' ⟨rfl, rfl⟩
      go_wp2_with fail
      go_ret2
      exact ⟨rfl, World.grownBy.refl _ _⟩
    · have hn' : n < 1 ∨ 129 < n := by omega
      clear h hn
      go_enter Try.func34, Try.ntmps34
      go_wp2_with fail
      refine (few_no _ _ _ _ hn' hm).mono ?_
      rintro e w' ⟨rfl, rfl⟩
      go_wp2_with fail
      go_ret2
      exact ⟨rfl, World.grownBy.refl _ _⟩
set_option maxHeartbeats 400000 in
theorem impl_t (A : Option Addr) (n c B : Nat) (a : Int) (x : Nat → Nat) (w : World) (hm : n ≤ 9223372036854775807) (hc1 : n ≤ c) (hc2 : c ≤ 9223372036854775807) (hB : B ≤ w.heap.size) (ha : Rd w B A n (fl x)) :
    Calls Try.prog 35 #[.slice A n c, .int .i64 a] w fun e w' => e = .returned (.tuple #[.float .f32 (sdT x n a).1, .bool (sdT x n a).2]) ∧ w.grownBy w' none := by
  by_cases h : (1 ≤ n ∧ n ≤ 129) ∧ 0 ≤ a ∧ a ≤ (n : Int) - 1
  · obtain ⟨k, rfl⟩ : ∃ k : Nat, a = (k : Int) := ⟨a.toNat, by omega⟩
    have hk : k < n := by omega
    obtain ⟨ad, rfl, _, _⟩ := ha.at_ hk
    obtain ⟨b1, b2, b3⟩ := reach_bd x n k hk
    have hT : sdT x n k = sdR x (reach (mR x) n k).1 (reach (mR x) n k).2 n := by unfold sdT; rw [if_pos h]; rfl
    rw [hT]
    have hR : mainT x n k = (((reach (mR x) n k).1 : Int), ((reach (mR x) n k).2 : Int), true) := by unfold mainT; rw [if_pos h]; rfl
    exact side_impl ad n c B k (reach (mR x) n k).1 (reach (mR x) n k).2 x w (by omega) hk hc1 hc2 hB ha hR b1 b2 b3
  · have hT : sdT x n a = (0, false) := by unfold sdT; rw [if_neg h]
    rw [hT]
    have hR : mainT x n a = (0, 0, false) := by unfold mainT; rw [if_neg h]
    have HM := fun w hB ha => mainL_impl A n c B a x w hm hB ha
    rw [hR] at HM
    clear hT hR h
    go_enter Try.func35, Try.ntmps35
    go_wp2_with fail
    refine (HM _ hB ha).mono ?_
    rintro e w1 ⟨rfl, hg1⟩
    go_wp2_with fail
    go_ret2
    exact ⟨rfl, hg1⟩

attribute [local go_sem] cv3264
set_option maxHeartbeats 800000 in
set_option maxRecDepth 100000 in
theorem law (A : Option Addr) (n c : Nat) (x : Nat → Nat) (a : Int) (w : World) (hm : n ≤ 9223372036854775807) (hr : Rd w w.heap.size A n (fl x)) :
    Calls Try.prog 6 #[.slice A n c, .int .i64 a] w fun e w' => e = .returned (.bool true) ∧ Below w.heap.size w w' := by
  have hs := fun A n c B w hm hB ha => spec_t A n c B a x w hm hB ha
  have hi := fun A n c B w hm hc1 hc2 hB ha => impl_t A n c B a x w hm hc1 hc2 hB ha
  generalize hR : sdT x = R at hs hi
  have HSM := Lib.hid (fun (w1 w2 : World) => (by rw [can_cval (wide_fits _) (by decide), can_cval (wide_fits _) (by decide)] : can .f64 (cval .f32 w1 (R n a).1 .f64) = can .f64 (cval .f32 w2 (R n a).1 .f64)))
  clear hR
  by_cases hl : n ≤ 1048576
  · have hl' : (n : Int) ≤ 1048576 := by omega
    go_enter Try.func6, Try.ntmps6
    go_wp2_with fail
    refine (toF _ _ _ _ _ (by omega) hr).mono ?_
    rintro e w1 ⟨A1, c1, rfl, ho1, hg1⟩
    have R1 := Rd.of_lst ho1 (Nat.mul_one _).symm
    go_wp2_with fail
    refine (hs _ _ _ _ _ hm (Nat.le_refl _) R1).mono ?_
    rintro e w2 ⟨rfl, hg2⟩
    have g2 := hg1.trans hg2
    go_wp2_with fail
    refine (toF _ _ _ _ _ (by omega) ((hr.kept0 g2 (Nat.le_refl _)).mono g2.size)).mono ?_
    rintro e w3 ⟨A3, c3, rfl, ho3, hg3⟩
    have R3 := Rd.of_lst ho3 (Nat.mul_one _).symm
    have g3 := g2.trans hg3
    have hcc := own_le ho3
    unfold maxLen at hcc
    have hc3 : c3 ≤ 9223372036854775807 := by omega
    have hc3' := hcc.1
    clear hcc
    go_wp2_with fail
    refine (hi _ _ _ _ _ hm hc3' hc3 (Nat.le_refl _) R3).mono ?_
    rintro e w4 ⟨rfl, hg4⟩
    have g4 := g3.trans hg4
    clear hs hi
    generalize (R n a).1 = r1 at *
    generalize (R n a).2 = r2 at *
    go_wp2_with fail
    refine (same_g _ _ _ (HSM.out _ _)).mono ?_
    rintro e w4' ⟨rfl, hg4'⟩
    have g4' := (gbD g4 _).trans hg4'
    have hg44 := (gbD hg4 _).trans hg4'
    go_wp2_with fail
    refine (toF _ _ _ _ _ (by omega) ((hr.kept0 g4' (Nat.le_refl _)).mono g4'.size)).mono ?_
    rintro e w5 ⟨A5, c5, rfl, ho5, hg5⟩
    have R5 := Rd.of_lst ho5 (Nat.mul_one _).symm
    have h35 := hg44.trans hg5
    go_wp2_with fail
    refine (eqF_true _ _ _ _ _ _ _ _ hm (Nat.le_refl _) ((R3.kept0 h35 (Nat.le_refl _)).mono h35.size) R5).mono ?_
    rintro e w6 ⟨rfl, hg6⟩
    go_wp2_with fail
    go_ret
    exact ⟨rfl, gb_below ((g4'.trans hg5).trans hg6)⟩
  · have hl' : (1048576 : Int) < n := by omega
    go_enter Try.func6, Try.ntmps6
    go_wp2_with fail
    go_ret
    exact ⟨rfl, Below.refl _ _⟩

theorem walk (a0 : Option Addr) (len0 cap0 : Nat) (z0 : Nat → Nat) (a1 : Int) (w : World) (l0 : len0 ≤ cap0) (m0 : cap0 ≤ maxLen) (w0 : ∀ j, j < len0 → (Lit.float .f32 (z0 j)).wf = true) (r0 : Rd w w.heap.size a0 len0 (fl z0)) (w1 : (Lit.int .i64 a1).wf = true) :
    Calls Try.prog 6 #[.slice a0 len0 cap0, .int .i64 a1] w fun e w' => e = .returned (.bool true) ∧ Below w.heap.size w w' := by
  unfold maxLen at m0
  exact law a0 len0 cap0 z0 a1 w (by omega) r0

set_option maxRecDepth 100000 in
theorem lifted (os : Os) (started : os.Started) (H : Type) (enc : TypeId × Value → H) :
    ReturnsInHanded {} Try.checked os 6 .any (Rows.fnExactSideLevelSpec.pre6 enc Try.prog Try.f6 Rows.fnExactSideLevelRow.domain false) (Rows.fnExactSideLevelSpec.post enc Try.prog Try.f6 false true false false) := by
  refine returnsInHanded_of_change (C := Try.checked) own started (by kernel_rfl) Try.func6
    (ChangeSpec.witness6 (enc := enc) (C := Try.checked) false ⟨#[], #[.slice none 0 0, .int .i64 0], []⟩ 8 (by kernel_rfl) (by kernel_rfl) (by kernel_rfl) (by kernel_rfl)) ?_
  intro W base args ds gs before hval0 hW hcnd _
  have hval : ∀ (j : Nat) t v, Try.f6.params[j]? = some t → args[j]? = some v → Value.okWide Try.prog W .any base t v := hval0
  have hW' := hW
  obtain ⟨p, q, hA0, hV, rfl, hfz, hnd⟩ := hW
  have hA : DataW.TrodAll enc Try.prog W 0 (fun _ => true) true Try.f6.params.toList args.toList ds p := hA0
  rw [Try.params6] at hA hval
  obtain ⟨v0, vs0, d0, ds0, p0, q0, hargs, rfl, rfl, h0, r0⟩ := trodAll_cons hA
  obtain ⟨v1, vs1, d1, ds1, p1, q1, rfl, rfl, rfl, h1, r1⟩ := trodAll_cons r0
  obtain ⟨rfl, rfl, rfl⟩ := trodAll_nil r1
  obtain rfl : args = #[v0, v1] := by cases args; simp_all
  obtain ⟨rfl, rfl⟩ := trodVars_none hV
  obtain ⟨a0, len0, cap0, rfl⟩ := okWide_slice Try.underlying22 (hval 0 22 v0 rfl rfl)
  have k0 := h0
  have lt0 : ∀ x ∈ p0, x.block < W.heap.size := by obtain ⟨m, hm⟩ := k0; exact DataW.trod_lt m _ _ _ hm
  obtain ⟨z0, l0, m0, w0, r0'⟩ := opened_floats Try.underlying22 Try.underlying51 (by kernel_rfl) k0
  obtain ⟨a1, rfl, rfl, rfl, w1⟩ := open_int Try.underlying2 (hval 1 2 v1 rfl rfl) h1
  clear hA0 hval0
  refine (walk a0 len0 cap0 z0 a1 W l0 m0 w0 r0' w1).mono fun e W' ⟨he, bel⟩ => ?_
  subst he
  exact ⟨_, rfl, _, _, _, [], _, [], hW', trodAll_mk1 (shut_bool Try.underlying4 _), (trodAll_cons_mk (Below.trod laidOut (by kernel_rfl) (of_decide_eq_true (by kernel_rfl)) k0 bel lt0) (trodAll_cons_mk (shut_int Try.underlying2 w1) trodAll_mk0)), rfl, bel.frame _, fun h => by cases h⟩

theorem over : Rows.fnExactSideLevelRow.holds Try.pinned (OpenSpec.ofChange Rows.fnExactSideLevelSpec) :=
  OpenClaim.holds_of_wide 6 Try.f6 rfl rfl rfl rfl rfl rfl rfl ⟨rfl, rfl, rfl, rfl, rfl⟩ rfl rfl rfl rfl rfl (by kernel_rfl) Try.func6 (by kernel_rfl)
    (of_decide_eq_true (by kernel_rfl)) (by unfold Func.isWrapper; first | (rw [if_pos (by decide +kernel)]; kernel_rfl) | (rw [if_neg (by decide +kernel)]; exact ⟨rfl, rfl⟩))
    (fun os started H enc _ => lifted os started H enc)

theorem proved : Rows.FnExactSideLevelSaid := over
#print axioms proved
end Go.Proofs.Ytjmgohlepglkoaa.sideLevel
