/- The law on NullWeights answers true at every spacing and every list of nulls. No condition. -/
import Derived.Test.YtjmgohlepglkoaaRows
import Derived.Test.YtjmgohlepglkoaaSlc
import Derived.Test.YtjmgohlepglkoaaSmall
import Derived.Test.YtjmgohlepglkoaaOpens
import Derived.Test.YtjmgohlepglkoaaPlaces
import Derived.Test.YtjmgohlepglkoaaPlaceSet
import Derived.Test.YtjmgohlepglkoaaSteps
import Derived.Test.YtjmgohlepglkoaaListI
import Derived.Test.YtjmgohlepglkoaaListC
import Derived.Test.YtjmgohlepglkoaaFloats
import Derived.Test.YtjmgohlepglkoaaRound
import Derived.Test.YtjmgohlepglkoaaValues
import Derived.Test.YtjmgohlepglkoaaConv
import Derived.Test.YtjmgohlepglkoaaFWalk
import Derived.Test.YtjmgohlepglkoaaFinWalk
import Derived.Test.YtjmgohlepglkoaaFloat2
import Derived.Test.YtjmgohlepglkoaaFloat3
import Derived.Test.YtjmgohlepglkoaaPhase
import Derived.Test.YtjmgohlepglkoaaSine
import Derived.Test.YtjmgohlepglkoaaPhasor
import Derived.Test.YtjmgohlepglkoaaSteerNum
import Derived.Test.YtjmgohlepglkoaaSteering
import Derived.Test.YtjmgohlepglkoaaListCC
import Derived.Test.YtjmgohlepglkoaaSineIn
import Derived.Test.YtjmgohlepglkoaaPolyNum
import Derived.Test.YtjmgohlepglkoaaPolyW
import Derived.Test.YtjmgohlepglkoaaPoly1
import Derived.Test.YtjmgohlepglkoaaPoly2
import Derived.Test.YtjmgohlepglkoaaConcatC
import Derived.Test.YtjmgohlepglkoaaPolyA
import Derived.Test.YtjmgohlepglkoaaPolyB
import Derived.Test.YtjmgohlepglkoaaPolyC
import Derived.Test.YtjmgohlepglkoaaPolyD
import Derived.Test.YtjmgohlepglkoaaNullI
import Derived.Test.YtjmgohlepglkoaaNullJ
import Derived.Test.YtjmgohlepglkoaaNullS
import Derived.WalkKit
import Derived.ProofKit
import Derived.OpenShut
import Derived.ShutString
import Derived.ChangeOld
import Derived.Below
import Derived.Lib.Hide
import Derived.BigQuiet
import Derived.Deep.QuietTactic
import Derived.WalkLawsBesides
import Derived.Outline
import Derived.Deep.LoopGhost
namespace Go.Proofs.Ytjmgohlepglkoaa.nullWeights
open Go.ChangeShapes Go.WideShapes Go.ChangeAt Go.RowKit
open Go.ChangeMaps (open_string shut_string)
set_option linter.unusedVariables false
theorem own : ownKnob Try.prog.godebug = none := by kernel_rfl
theorem laidOut : laidOutB Try.prog = true := by kernel_rfl
open Go Go.RowKit
open Go.Proofs.Ytjmgohlepglkoaa.slc Go.Proofs.Ytjmgohlepglkoaa.small Go.Proofs.Ytjmgohlepglkoaa.opens Go.Proofs.Ytjmgohlepglkoaa.listI Go.Proofs.Ytjmgohlepglkoaa.listC Go.Proofs.Ytjmgohlepglkoaa.listCC Go.Proofs.Ytjmgohlepglkoaa.steerNum Go.Proofs.Ytjmgohlepglkoaa.polyNum Go.Proofs.Ytjmgohlepglkoaa.poly2 Go.Proofs.Ytjmgohlepglkoaa.polyD Go.Proofs.Ytjmgohlepglkoaa.nullI

theorem same_refl (l : List (Nat × Nat)) : SameL l l := ⟨rfl, fun _ _ => ⟨rfl, rfl⟩⟩
theorem eqR (A A' : Option Addr) (c d B : Nat) (R : List (Nat × Nat)) (w : World) (hn : R.length ≤ 64) (hB : B ≤ w.heap.size) (ha : Rd w B A R.length (ccell R)) (hb : Rd w B A' R.length (ccell R)) :
    Calls Try.prog 24 #[.slice A R.length c, .slice A' R.length d] w fun e w' => e = .returned (.bool true) ∧ w.grownBy w' none :=
  eqC_can A A' c d B R R w (by omega) hB (same_refl R) ha hb
set_option maxHeartbeats 2000000 in
set_option maxRecDepth 100000 in
theorem law (s : Int) (A : Option Addr) (c : Nat) (us : List Int) (R : List (Nat × Nat)) (ok : Bool) (w : World) (hm : us.length ≤ 9223372036854775807) (hl : R.length ≤ 16) (hr : Rd w w.heap.size A us.length (cls us))
    (hs : Nul 29 s us R ok) (hi : Nul 31 s us R ok) :
    Calls Try.prog 5 #[.int .i64 s, .slice A us.length c] w fun e w' => e = .returned (.bool true) ∧ Below w.heap.size w w' := by
  have hp : Ints (cls us) us.length := Ints.of us us.length (Nat.le_refl _)
  have h64 : R.length ≤ 64 := by omega
  have h65 : R.length ≤ 65536 := by omega
  by_cases hlen : us.length ≤ 1048576
  · go_enter Try.func5, Try.ntmps5
    have hlen' : (us.length : Int) ≤ 1048576 := by omega
    go_wp2_with fail
    refine (toI _ _ _ _ _ (by omega) hp hr).mono ?_
    rintro e w1 ⟨A1, c1, rfl, ho1, hg1⟩
    have R1 := Rd.of_lst ho1 (Nat.mul_one _).symm
    go_wp2_with fail
    refine (hs _ _ _ _ hm R1 (Nat.le_refl _)).mono ?_
    rintro e w2 ⟨A2, c2, rfl, ho2, hg2⟩
    have S2 := Rd.of_lst ho2 (Nat.mul_one _).symm
    have g2 := hg1.trans hg2
    go_wp2_with fail
    refine (toI _ _ _ _ _ (by omega) hp ((hr.kept0 g2 (Nat.le_refl _)).mono g2.size)).mono ?_
    rintro e w3 ⟨A3, c3, rfl, ho3, hg3⟩
    have R3 := Rd.of_lst ho3 (Nat.mul_one _).symm
    have g3 := g2.trans hg3
    go_wp2_with fail
    refine (hi _ _ _ _ hm R3 (Nat.le_refl _)).mono ?_
    rintro e w4 ⟨A4, c4, rfl, ho4, hg4⟩
    have R4 := Rd.of_lst ho4 (Nat.mul_one _).symm
    have g4 := g3.trans hg4
    have S4 := (S2.kept0 (hg3.trans hg4) (Nat.le_refl _)).mono (hg3.trans hg4).size
    go_wp2_with fail
    refine (eqR _ _ _ _ _ _ _ h64 (Nat.le_refl _) R4 S4).mono ?_
    rintro e w5 ⟨rfl, hg5⟩
    have g5 := g4.trans hg5
    go_wp2_with fail
    refine (toI _ _ _ _ _ (by omega) hp ((hr.kept0 g5 (Nat.le_refl _)).mono g5.size)).mono ?_
    rintro e w6 ⟨A6, c6, rfl, ho6, hg6⟩
    have R6 := Rd.of_lst ho6 (Nat.mul_one _).symm
    have h36 := (hg4.trans hg5).trans hg6
    have R36 := (R3.kept0 h36 (Nat.le_refl _)).mono h36.size
    have g6 := g5.trans hg6
    go_wp2_with fail
    refine (eqI_true _ _ _ _ _ _ _ _ (by omega) hp R36 R6).mono ?_
    rintro e w7 ⟨rfl, hg7⟩
    have g7 := g6.trans hg7
    have ho37 := own_kept0 ho3 (h36.trans hg7)
    go_wp2_with fail
    refine (markI1 _ _ _ _ _ _ _ (by omega) ho37).mono ?_
    rintro e w8 ⟨rfl, ho8, hg8⟩
    have h47 := (hg5.trans hg6).trans hg7
    have ho47 := own_kept0 ho4 h47
    have b3 := own_base ho3
    have b4 := own_base ho4
    have hsz34 := hg4.size
    have hn34 : (Value.slice A4 R.length c4).ownBlock ≠ A3.map Addr.block ∨ (Value.slice A4 R.length c4).ownBlock = none := by
      cases h4 : (Value.slice A4 R.length c4).ownBlock with
      | none => exact .inr rfl
      | some b =>
        refine .inl fun e => ?_
        rw [own_blk] at h4
        have x1 := (b4 b h4).1
        have x2 := (b3 b e.symm).2
        omega
    have ho48 := ho47.kept hg8 hn34.symm
    have R48 := Rd.of_lst ho48 (Nat.mul_one _).symm
    have S7 := S2.kept0 ((hg3.trans hg4).trans h47) (Nat.le_refl _)
    have hsz27 := ((hg3.trans hg4).trans h47).size
    have S8 := S7.kept hg8 hsz27 (far_of ho3 (Nat.le_refl _))
    have hsz28 := Nat.le_trans hsz27 hg8.size
    have g8 := gb_new g7 hg8 (base_of ho3 g2.size)
    go_wp2_with fail
    refine (eqR _ _ _ _ _ _ _ h64 (Nat.le_refl _) R48 (S8.mono hsz28)).mono ?_
    rintro e w9 ⟨rfl, hg9⟩
    have g9 := g8.trans hg9
    have ho49 := own_kept0 ho48 hg9
    have S9 := S8.kept0 hg9 hsz28
    have hsz29 := Nat.le_trans hsz28 hg9.size
    go_wp2_with fail
    refine (markC1 _ _ _ _ _ _ _ h65 ho49).mono ?_
    rintro e w10 ⟨rfl, ho10, hg10⟩
    have S10 := S9.kept hg10 hsz29 (far_of ho4 (Nat.le_trans hg3.size (Nat.le_refl _)))
    have hsz210 := Nat.le_trans hsz29 hg10.size
    have M10 := Rd.of_lst ho10 (Nat.mul_one _).symm
    have g10 := gb_new g9 hg10 (base_of ho4 g3.size)
    go_wp2_with fail
    refine (heldC1 _ _ _ _ _ h65 M10).mono ?_
    rintro e w' ⟨rfl, rfl⟩
    have r10 := (hr.kept0 g10 (Nat.le_refl _)).mono g10.size
    go_wp2_with fail
    refine (toI _ _ _ _ _ (by omega) hp r10).mono ?_
    rintro e w11 ⟨A11, c11, rfl, ho11, hg11⟩
    have R11 := Rd.of_lst ho11 (Nat.mul_one _).symm
    go_wp2_with fail
    refine (hi _ _ _ _ hm R11 (Nat.le_refl _)).mono ?_
    rintro e w12 ⟨A12, c12, rfl, ho12, hg12⟩
    have R12 := Rd.of_lst ho12 (Nat.mul_one _).symm
    have S12 := (S10.kept0 (hg11.trans hg12) hsz210).mono (Nat.le_trans hsz210 (hg11.trans hg12).size)
    go_wp2_with fail
    refine (eqR _ _ _ _ _ _ _ h64 (Nat.le_refl _) R12 S12).mono ?_
    rintro e w13 ⟨rfl, hg13⟩
    have M13 := M10.kept0 ((hg11.trans hg12).trans hg13) (Nat.le_refl _)
    go_wp2_with fail
    refine (heldC1 _ _ _ _ _ h65 M13).mono ?_
    rintro e w' ⟨rfl, rfl⟩
    go_wp2_with fail
    go_ret
    exact ⟨rfl, gb_below (g10.trans ((hg11.trans hg12).trans hg13))⟩
  · have hlen' : (1048576 : Int) < (us.length : Int) := by omega
    go_enter Try.func5, Try.ntmps5
    go_wp2_with fail
    go_ret
    exact ⟨rfl, Below.refl _ _⟩

theorem walk (a0 : Int) (a1 : Option Addr) (len1 cap1 : Nat) (z1 : List Int) (w : World) (w0 : (Lit.int .i64 a0).wf = true) (l1 : z1.length = len1) (m1 : len1 ≤ maxLen) (w1 : ∀ x ∈ z1, (Lit.int .i64 x).wf = true) (r1 : Rd w w.heap.size a1 len1 (fun j => .int .i64 (z1.getD j 0))) :
    Calls Try.prog 5 #[.int .i64 a0, .slice a1 len1 cap1] w fun e w' => e = .returned (.bool true) ∧ Below w.heap.size w w' := by
  subst l1
  unfold maxLen at m1
  have r1' : Rd w w.heap.size a1 z1.length (cls z1) := r1.congr fun j hj => by rw [show cls z1 j = .int .i64 z1[j] from ints_getD z1 j hj]; simp [List.getD, hj]
  by_cases hv : Nv a0 z1
  · have hlen : ((pol (nulz a0 z1)).map cj).length ≤ 16 := by
      have := hv.2.1
      rw [List.length_map, pol_len1, nulz_len]
      omega
    exact law a0 a1 cap1 z1 _ _ w (by omega) hlen r1' (nullS.spec_yes a0 z1 hv) (impl_yes a0 z1 hv)
  · exact law a0 a1 cap1 z1 _ _ w (by omega) (by simp) r1' (nullS.spec_no a0 z1 hv) (nullJ.impl_no a0 z1 hv)

set_option maxRecDepth 100000 in
theorem lifted (os : Os) (started : os.Started) (H : Type) (enc : TypeId × Value → H) :
    ReturnsInHanded {} Try.checked os 5 .any (Rows.fnExactNullWeightsSpec.pre6 enc Try.prog Try.f5 Rows.fnExactNullWeightsRow.domain false) (Rows.fnExactNullWeightsSpec.post enc Try.prog Try.f5 false true false false) := by
  refine returnsInHanded_of_change (C := Try.checked) own started (by kernel_rfl) Try.func5
    (ChangeSpec.witness6 (enc := enc) (C := Try.checked) false ⟨#[], #[.int .i64 0, .slice none 0 0], []⟩ 8 (by kernel_rfl) (by kernel_rfl) (by kernel_rfl) (by kernel_rfl)) ?_
  intro W base args ds gs before hval0 hW hcnd _
  have hval : ∀ (j : Nat) t v, Try.f5.params[j]? = some t → args[j]? = some v → Value.okWide Try.prog W .any base t v := hval0
  have hW' := hW
  obtain ⟨p, q, hA0, hV, rfl, hfz, hnd⟩ := hW
  have hA : DataW.TrodAll enc Try.prog W 0 (fun _ => true) true Try.f5.params.toList args.toList ds p := hA0
  rw [Try.params5] at hA hval
  obtain ⟨v0, vs0, d0, ds0, p0, q0, hargs, rfl, rfl, h0, r0⟩ := trodAll_cons hA
  obtain ⟨v1, vs1, d1, ds1, p1, q1, rfl, rfl, rfl, h1, r1⟩ := trodAll_cons r0
  obtain ⟨rfl, rfl, rfl⟩ := trodAll_nil r1
  obtain rfl : args = #[v0, v1] := by cases args; simp_all
  obtain ⟨rfl, rfl⟩ := trodVars_none hV
  obtain ⟨a0, rfl, rfl, rfl, w0⟩ := open_int Try.underlying2 (hval 0 2 v0 rfl rfl) h0
  obtain ⟨a1, len1, cap1, rfl⟩ := okWide_slice Try.underlying45 (hval 1 45 v1 rfl rfl)
  have k1 := h1
  have lt1 : ∀ x ∈ p1, x.block < W.heap.size := by obtain ⟨m, hm⟩ := k1; exact DataW.trod_lt m _ _ _ hm
  obtain ⟨z1, l1, m1, w1, r1'⟩ := opened_ints Try.underlying45 Try.underlying2 (by kernel_rfl) k1
  clear hA0 hval0
  refine (walk a0 a1 len1 cap1 z1 W w0 l1 m1 w1 r1').mono fun e W' ⟨he, bel⟩ => ?_
  subst he
  exact ⟨_, rfl, _, _, _, [], _, [], hW', trodAll_mk1 (shut_bool Try.underlying4 _), (trodAll_cons_mk (shut_int Try.underlying2 w0) (trodAll_cons_mk (Below.trod laidOut (by kernel_rfl) (of_decide_eq_true (by kernel_rfl)) k1 bel lt1) trodAll_mk0)), rfl, bel.frame _, fun h => by cases h⟩

theorem over : Rows.fnExactNullWeightsRow.holds Try.pinned (OpenSpec.ofChange Rows.fnExactNullWeightsSpec) :=
  OpenClaim.holds_of_wide 5 Try.f5 rfl rfl rfl rfl rfl rfl rfl ⟨rfl, rfl, rfl, rfl, rfl⟩ rfl rfl rfl rfl rfl (by kernel_rfl) Try.func5 (by kernel_rfl)
    (of_decide_eq_true (by kernel_rfl)) (by unfold Func.isWrapper; first | (rw [if_pos (by decide +kernel)]; kernel_rfl) | (rw [if_neg (by decide +kernel)]; exact ⟨rfl, rfl⟩))
    (fun os started H enc _ => lifted os started H enc)

theorem proved : Rows.FnExactNullWeightsSaid := over
#print axioms proved
end Go.Proofs.Ytjmgohlepglkoaa.nullWeights
