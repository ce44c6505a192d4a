/- The law on MissedOf answers true at every list of beams, every list of slots and every tick. No condition. -/
import Derived.Test.YtkjmlpdbnnmlhaaRows
import Derived.Test.YtkjmlpdbnnmlhaaSlc
import Derived.Test.YtkjmlpdbnnmlhaaSmall
import Derived.Test.YtkjmlpdbnnmlhaaOpens
import Derived.Test.YtkjmlpdbnnmlhaaListI
import Derived.Test.YtkjmlpdbnnmlhaaBeams
import Derived.Test.YtkjmlpdbnnmlhaaListBeam
import Derived.Test.YtkjmlpdbnnmlhaaListSlot
import Derived.Test.YtkjmlpdbnnmlhaaPlanNum
import Derived.Test.YtkjmlpdbnnmlhaaMissNum
import Derived.Test.YtkjmlpdbnnmlhaaSwT
import Derived.Test.YtkjmlpdbnnmlhaaBeamsOk
import Derived.Test.YtkjmlpdbnnmlhaaPlanDue
import Derived.Test.YtkjmlpdbnnmlhaaPlanIs
import Derived.Test.YtkjmlpdbnnmlhaaPlanSpec
import Derived.Test.YtkjmlpdbnnmlhaaPlanTop
import Derived.Test.YtkjmlpdbnnmlhaaBusyC
import Derived.Test.YtkjmlpdbnnmlhaaLateC
import Derived.Test.YtkjmlpdbnnmlhaaMissC
import Derived.Test.YtkjmlpdbnnmlhaaPlanLaw
import Derived.WalkKit
import Derived.ProofKit
import Derived.OpenShut
import Derived.ShutString
import Derived.ChangeOld
import Derived.Below
import Derived.Lib.Hide
import Derived.BigQuiet
import Derived.Deep.QuietTactic
import Derived.WalkLawsBesides
import Derived.Outline
import Derived.Deep.LoopGhost
namespace Go.Proofs.Ytkjmlpdbnnmlhaa.missedOf
open Go.ChangeShapes Go.WideShapes Go.ChangeAt Go.RowKit
open Go.ChangeMaps (open_string shut_string)
set_option linter.unusedVariables false
theorem own : ownKnob Try.prog.godebug = none := by kernel_rfl
theorem laidOut : laidOutB Try.prog = true := by kernel_rfl
open Go Go.RowKit
open Go.Proofs.Ytkjmlpdbnnmlhaa.slc Go.Proofs.Ytkjmlpdbnnmlhaa.small Go.Proofs.Ytkjmlpdbnnmlhaa.opens Go.Proofs.Ytkjmlpdbnnmlhaa.listI Go.Proofs.Ytkjmlpdbnnmlhaa.beams Go.Proofs.Ytkjmlpdbnnmlhaa.listBeam Go.Proofs.Ytkjmlpdbnnmlhaa.listSlot Go.Proofs.Ytkjmlpdbnnmlhaa.planNum Go.Proofs.Ytkjmlpdbnnmlhaa.planTop Go.Proofs.Ytkjmlpdbnnmlhaa.missC Go.Proofs.Ytkjmlpdbnnmlhaa.planLaw
set_option maxHeartbeats 4000000 in
set_option maxRecDepth 100000 in
theorem law (A0 : Option Addr) (c0 : Nat) (z0 : List Bm) (A1 : Option Addr) (c1 : Nat) (z1 : List (Int × Int)) (a2 : Int) (w : World) (hm0 : z0.length ≤ 9223372036854775807) (hr0 : Rd w w.heap.size A0 (z0.length * 4) (bcell z0)) (hm1 : z1.length ≤ 9223372036854775807) (hr1 : Rd w w.heap.size A1 (z1.length * 2) (pcell z1)) :
    Calls Try.prog 9 #[.slice A0 z0.length c0, .slice A1 z1.length c1, .int .i64 a2] w fun e w' => e = .returned (.bool true) ∧ Below w.heap.size w w' := by
  by_cases hl0 : z0.length ≤ 1048576
  · have hz0 := hl0
    by_cases hl1 : z0.length + z1.length ≤ 1048576
    · have hz1 := hl1
      have hx := cls_ints (ML z0 z1 a2)
      have hxl : (ML z0 z1 a2).length ≤ 65536 := ML_len z0 z1 a2
      go_enter Try.func9, Try.ntmps9
      go_wp2_with fail
      refine (szB _ _ _ _ hl0).mono ?_
      rintro e w' ⟨rfl, rfl⟩
      go_wp2_with fail
      refine (szL2 _ _ _ _ _ (by omega) (by omega) (by omega)).mono ?_
      rintro e w' ⟨rfl, rfl⟩
      go_wp2_with fail
      refine (toB _ _ _ _ _ (by omega) hr0).mono ?_
      rintro e w1 ⟨B1, d1, rfl, ho1, hg1⟩
      have R1 := Rd.of_lst ho1 rfl
      have y1 := hg1.size
      go_wp2_with fail
      refine (toL _ _ _ _ _ (by omega) (pcell_ints z1 (z1.length * 2)) ((hr1.kept0 hg1 (Nat.le_refl _)).mono hg1.size)).mono ?_
      rintro e w2 ⟨B2, d2, rfl, ho2, hg2⟩
      have R2 := Rd.of_lst ho2 rfl
      have y2 := hg2.size
      go_wp2_with fail
      refine (miss_spec _ _ _ _ _ _ _ _ _ hm0 hm1 ((R1.kept0 hg2 (Nat.le_refl _)).mono hg2.size) R2 (Nat.le_refl _)).mono ?_
      rintro e w3 ⟨B3, d3, rfl, ho3, hg3⟩
      have R3 := Rd.of_lst ho3 (Nat.mul_one _).symm
      have y3 := hg3.size
      go_wp2_with fail
      refine (toB _ _ _ _ _ (by omega) ((hr0.kept0 ((hg1.trans hg2).trans hg3) (Nat.le_refl _)).mono ((hg1.trans hg2).trans hg3).size)).mono ?_
      rintro e w4 ⟨B4, d4, rfl, ho4, hg4⟩
      have R4 := Rd.of_lst ho4 rfl
      have y4 := hg4.size
      go_wp2_with fail
      refine (toL _ _ _ _ _ (by omega) (pcell_ints z1 (z1.length * 2)) ((hr1.kept0 (((hg1.trans hg2).trans hg3).trans hg4) (Nat.le_refl _)).mono (((hg1.trans hg2).trans hg3).trans hg4).size)).mono ?_
      rintro e w5 ⟨B5, d5, rfl, ho5, hg5⟩
      have R5 := Rd.of_lst ho5 rfl
      have y5 := hg5.size
      go_wp2_with fail
      refine (miss_impl _ _ _ _ _ _ _ _ _ hm0 hm1 ((R4.kept0 hg5 (Nat.le_refl _)).mono hg5.size) R5 (Nat.le_refl _)).mono ?_
      rintro e w6 ⟨B6, d6, rfl, ho6, hg6⟩
      have R6 := Rd.of_lst ho6 (Nat.mul_one _).symm
      have y6 := hg6.size
      go_wp2_with fail
      refine (eqI_true _ _ _ _ _ _ _ _ (by omega) hx R6 ((R3.kept0 ((hg4.trans hg5).trans hg6) (Nat.le_refl _)).mono ((hg4.trans hg5).trans hg6).size)).mono ?_
      rintro e w7 ⟨rfl, hg7⟩
      have y7 := hg7.size
      go_wp2_with fail
      refine (toB _ _ _ _ _ (by omega) ((hr0.kept0 ((((((hg1.trans hg2).trans hg3).trans hg4).trans hg5).trans hg6).trans hg7) (Nat.le_refl _)).mono ((((((hg1.trans hg2).trans hg3).trans hg4).trans hg5).trans hg6).trans hg7).size)).mono ?_
      rintro e w8 ⟨B8, d8, rfl, ho8, hg8⟩
      have R8 := Rd.of_lst ho8 rfl
      have y8 := hg8.size
      go_wp2_with fail
      refine (eqB_true _ _ _ _ _ _ _ _ (by omega) (Nat.le_refl _) ((R4.kept0 (((hg5.trans hg6).trans hg7).trans hg8) (Nat.le_refl _)).mono (((hg5.trans hg6).trans hg7).trans hg8).size) R8).mono ?_
      rintro e w9 ⟨rfl, hg9⟩
      have y9 := hg9.size
      go_wp2_with fail
      refine (toL _ _ _ _ _ (by omega) (pcell_ints z1 (z1.length * 2)) ((hr1.kept0 ((((((((hg1.trans hg2).trans hg3).trans hg4).trans hg5).trans hg6).trans hg7).trans hg8).trans hg9) (Nat.le_refl _)).mono ((((((((hg1.trans hg2).trans hg3).trans hg4).trans hg5).trans hg6).trans hg7).trans hg8).trans hg9).size)).mono ?_
      rintro e w10 ⟨B10, d10, rfl, ho10, hg10⟩
      have R10 := Rd.of_lst ho10 rfl
      have y10 := hg10.size
      go_wp2_with fail
      refine (eqL_true _ _ _ _ _ _ _ _ (by omega) (Nat.le_refl _) (pcell_ints z1 (z1.length * 2)) ((R5.kept0 ((((hg6.trans hg7).trans hg8).trans hg9).trans hg10) (Nat.le_refl _)).mono ((((hg6.trans hg7).trans hg8).trans hg9).trans hg10).size) R10).mono ?_
      rintro e w11 ⟨rfl, hg11⟩
      have y11 := hg11.size
      have G11 := ((((((((((hg1.trans hg2).trans hg3).trans hg4).trans hg5).trans hg6).trans hg7).trans hg8).trans hg9).trans hg10).trans hg11)
      have X0_11 := own_kept0 ho4 ((((((hg5.trans hg6).trans hg7).trans hg8).trans hg9).trans hg10).trans hg11)
      have X1_11 := own_kept0 ho5 (((((hg6.trans hg7).trans hg8).trans hg9).trans hg10).trans hg11)
      have Q11 := own_kept0 ho6 ((((hg7.trans hg8).trans hg9).trans hg10).trans hg11)
      have S11 := R3.kept0 (((((((hg4.trans hg5).trans hg6).trans hg7).trans hg8).trans hg9).trans hg10).trans hg11) (Nat.le_refl _)
      have I0_11 := hr0.kept0 ((((((((((hg1.trans hg2).trans hg3).trans hg4).trans hg5).trans hg6).trans hg7).trans hg8).trans hg9).trans hg10).trans hg11) (Nat.le_refl _)
      have I1_11 := hr1.kept0 ((((((((((hg1.trans hg2).trans hg3).trans hg4).trans hg5).trans hg6).trans hg7).trans hg8).trans hg9).trans hg10).trans hg11) (Nat.le_refl _)
      go_wp2_with fail
      refine (markB1 _ _ _ _ _ _ _ (by omega) X0_11).mono ?_
      rintro e w12 ⟨rfl, hg12⟩
      have y12 := hg12.size
      have G12 := gb_new G11 hg12 (base_of ho4 (by omega))
      have Q12 := keep_new Q11 ho4 (by omega) hg12
      have S12 := S11.kept hg12 (by omega) (far_of ho4 (by omega))
      have I0_12 := I0_11.kept hg12 (by omega) (far_of ho4 (by omega))
      have I1_12 := I1_11.kept hg12 (by omega) (far_of ho4 (by omega))
      have X1_12 := keep_new X1_11 ho4 (by omega) hg12
      go_wp2_with fail
      refine (markL2 _ _ _ _ _ _ _ _ (by omega) X1_12).mono ?_
      rintro e w13 ⟨rfl, _, hg13⟩
      have y13 := hg13.size
      have G13 := gb_new G12 hg13 (base_of ho5 (by omega))
      have Q13 := keep_new Q12 ho5 (by omega) hg13
      have S13 := S12.kept hg13 (by omega) (far_of ho5 (by omega))
      have I0_13 := I0_12.kept hg13 (by omega) (far_of ho5 (by omega))
      have I1_13 := I1_12.kept hg13 (by omega) (far_of ho5 (by omega))
      have T13 := Rd.of_lst Q13 (Nat.mul_one _).symm
      go_wp2_with fail
      refine (eqI_true _ _ _ _ _ _ _ _ (by omega) hx T13 (S13.mono (by omega))).mono ?_
      rintro e w14 ⟨rfl, hg14⟩
      have y14 := hg14.size
      have Q14 := own_kept0 Q13 hg14
      have S14 := S13.kept0 hg14 (by omega)
      have I0_14 := I0_13.kept0 hg14 (by omega)
      have I1_14 := I1_13.kept0 hg14 (by omega)
      have G14 := G13.trans hg14
      go_wp2_with fail
      refine (markI1 _ _ _ _ _ _ _ (by omega) Q14).mono ?_
      rintro e w15 ⟨rfl, hm15', hg15⟩
      have y15 := hg15.size
      have G15 := gb_new G14 hg15 (base_of ho6 (by omega))
      have S15 := S14.kept hg15 (by omega) (far_of ho6 (by omega))
      have I0_15 := I0_14.kept hg15 (by omega) (far_of ho6 (by omega))
      have I1_15 := I1_14.kept hg15 (by omega) (far_of ho6 (by omega))
      have M15 := Rd.of_lst hm15' (Nat.mul_one _).symm
      go_wp2_with fail
      refine (heldI1 _ _ _ _ _ (by omega) M15).mono ?_
      rintro e w' ⟨rfl, rfl⟩
      go_wp2_with fail
      refine (toB _ _ _ _ _ (by omega) (I0_15.mono (show _ ≤ w15.heap.size by omega))).mono ?_
      rintro e w16 ⟨B16, d16, rfl, ho16, hg16⟩
      have R16 := Rd.of_lst ho16 rfl
      have y16 := hg16.size
      go_wp2_with fail
      refine (toL _ _ _ _ _ (by omega) (pcell_ints z1 (z1.length * 2)) (((I1_15.mono (show _ ≤ w15.heap.size by omega)).kept0 hg16 (by omega)).mono (by omega))).mono ?_
      rintro e w17 ⟨B17, d17, rfl, ho17, hg17⟩
      have R17 := Rd.of_lst ho17 rfl
      have y17 := hg17.size
      go_wp2_with fail
      refine (miss_impl _ _ _ _ _ _ _ _ _ hm0 hm1 ((R16.kept0 hg17 (Nat.le_refl _)).mono hg17.size) R17 (Nat.le_refl _)).mono ?_
      rintro e w18 ⟨B18, d18, rfl, ho18, hg18⟩
      have R18 := Rd.of_lst ho18 (Nat.mul_one _).symm
      have y18 := hg18.size
      go_wp2_with fail
      refine (eqI_true _ _ _ _ _ _ _ _ (by omega) hx R18 ((S15.kept0 ((hg16.trans hg17).trans hg18) (by omega)).mono (by omega))).mono ?_
      rintro e w19 ⟨rfl, hg19⟩
      have y19 := hg19.size
      go_wp2_with fail
      refine (heldI1 _ _ _ _ _ (by omega) (M15.kept0 (((hg16.trans hg17).trans hg18).trans hg19) (Nat.le_refl _))).mono ?_
      rintro e w' ⟨rfl, rfl⟩
      go_wp2_with fail
      go_ret
      exact ⟨rfl, gb_below (G15.trans (((hg16.trans hg17).trans hg18).trans hg19))⟩
    · go_enter Try.func9, Try.ntmps9
      go_wp2_with fail
      refine (szB _ _ _ _ (by omega)).mono ?_
      rintro e w' ⟨rfl, rfl⟩
      go_wp2_with fail
      refine (szL2_no _ _ _ _ _ (by omega) (by omega) (by omega) hm1).mono ?_
      rintro e w' ⟨rfl, rfl⟩
      go_wp2_with fail
      go_ret
      exact ⟨rfl, Below.refl _ _⟩
  · go_enter Try.func9, Try.ntmps9
    go_wp2_with fail
    refine (szB_no _ _ _ _ (by omega) hm0).mono ?_
    rintro e w' ⟨rfl, rfl⟩
    go_wp2_with fail
    go_ret
    exact ⟨rfl, Below.refl _ _⟩

theorem walk (a0 : Option Addr) (len0 cap0 : Nat) (z0 : List Bm) (a1 : Option Addr) (len1 cap1 : Nat) (z1 : List (Int × Int)) (a2 : Int) (w : World) (l0 : z0.length = len0) (m0 : len0 ≤ maxLen) (w0 : ∀ x ∈ z0, BWf x) (r0 : Rd w w.heap.size a0 (len0 * 4) (bcell z0)) (l1 : z1.length = len1) (m1 : len1 ≤ maxLen) (w1 : ∀ x ∈ z1, (Lit.int .i64 x.1).wf = true ∧ (Lit.int .i64 x.2).wf = true) (r1 : Rd w w.heap.size a1 (len1 * 2) (pcell z1)) (w2 : (Lit.int .i64 a2).wf = true) :
    Calls Try.prog 9 #[.slice a0 len0 cap0, .slice a1 len1 cap1, .int .i64 a2] w fun e w' => e = .returned (.bool true) ∧ Below w.heap.size w w' := by
  subst l0
  unfold maxLen at m0
  subst l1
  unfold maxLen at m1
  exact law a0 cap0 z0 a1 cap1 z1 a2 w (by omega) r0 (by omega) r1

set_option maxRecDepth 100000 in
theorem lifted (os : Os) (started : os.Started) (H : Type) (enc : TypeId × Value → H) :
    ReturnsInHanded {} Try.checked os 9 .any (Rows.fnExactMissedOfSpec.pre6 enc Try.prog Try.f9 Rows.fnExactMissedOfRow.domain false) (Rows.fnExactMissedOfSpec.post enc Try.prog Try.f9 false true false false) := by
  refine returnsInHanded_of_change (C := Try.checked) own started (by kernel_rfl) Try.func9
    (ChangeSpec.witness6 (enc := enc) (C := Try.checked) false ⟨#[], #[.slice none 0 0, .slice none 0 0, .int .i64 0], []⟩ 8 (by kernel_rfl) (by kernel_rfl) (by kernel_rfl) (by kernel_rfl)) ?_
  intro W base args ds gs before hval0 hW hcnd _
  have hval : ∀ (j : Nat) t v, Try.f9.params[j]? = some t → args[j]? = some v → Value.okWide Try.prog W .any base t v := hval0
  have hW' := hW
  obtain ⟨p, q, hA0, hV, rfl, hfz, hnd⟩ := hW
  have hA : DataW.TrodAll enc Try.prog W 0 (fun _ => true) true Try.f9.params.toList args.toList ds p := hA0
  rw [Try.params9] at hA hval
  obtain ⟨v0, vs0, d0, ds0, p0, q0, hargs, rfl, rfl, h0, r0⟩ := trodAll_cons hA
  obtain ⟨v1, vs1, d1, ds1, p1, q1, rfl, rfl, rfl, h1, r1⟩ := trodAll_cons r0
  obtain ⟨v2, vs2, d2, ds2, p2, q2, rfl, rfl, rfl, h2, r2⟩ := trodAll_cons r1
  obtain ⟨rfl, rfl, rfl⟩ := trodAll_nil r2
  obtain rfl : args = #[v0, v1, v2] := by cases args; simp_all
  obtain ⟨rfl, rfl⟩ := trodVars_none hV
  obtain ⟨a0, len0, cap0, rfl⟩ := okWide_slice Try.underlying22 (hval 0 22 v0 rfl rfl)
  have k0 := h0
  have lt0 : ∀ x ∈ p0, x.block < W.heap.size := by obtain ⟨m, hm⟩ := k0; exact DataW.trod_lt m _ _ _ hm
  obtain ⟨z0, l0, m0, w0, r0'⟩ := opened_beams Try.underlying22 Try.underlying81 (by kernel_rfl) rfl rfl rfl (by kernel_rfl) (by kernel_rfl) (by kernel_rfl) Try.underlying30 rfl rfl (by kernel_rfl) (by kernel_rfl) Try.underlying2 Try.underlying2 Try.underlying2 Try.underlying2 k0
  obtain ⟨a1, len1, cap1, rfl⟩ := okWide_slice Try.underlying45 (hval 1 45 v1 rfl rfl)
  have k1 := h1
  have lt1 : ∀ x ∈ p1, x.block < W.heap.size := by obtain ⟨m, hm⟩ := k1; exact DataW.trod_lt m _ _ _ hm
  obtain ⟨z1, l1, m1, w1, r1'⟩ := opened_pairs Try.underlying45 Try.underlying106 (by kernel_rfl) rfl rfl (by kernel_rfl) (by kernel_rfl) Try.underlying2 Try.underlying2 k1
  obtain ⟨a2, rfl, rfl, rfl, w2⟩ := open_int Try.underlying2 (hval 2 2 v2 rfl rfl) h2
  clear hA0 hval0
  refine (walk a0 len0 cap0 z0 a1 len1 cap1 z1 a2 W l0 m0 w0 r0' l1 m1 w1 r1' w2).mono fun e W' ⟨he, bel⟩ => ?_
  subst he
  exact ⟨_, rfl, _, _, _, [], _, [], hW', trodAll_mk1 (shut_bool Try.underlying4 _), (trodAll_cons_mk (Below.trod laidOut (by kernel_rfl) (of_decide_eq_true (by kernel_rfl)) k0 bel lt0) (trodAll_cons_mk (Below.trod laidOut (by kernel_rfl) (of_decide_eq_true (by kernel_rfl)) k1 bel lt1) (trodAll_cons_mk (shut_int Try.underlying2 w2) trodAll_mk0))), rfl, bel.frame _, fun h => by cases h⟩

set_option maxHeartbeats 8000000 in
theorem over : Rows.fnExactMissedOfRow.holds Try.pinned (OpenSpec.ofChange Rows.fnExactMissedOfSpec) :=
  OpenClaim.holds_of_wide 9 Try.f9 rfl rfl rfl rfl rfl rfl rfl ⟨rfl, rfl, rfl, rfl, rfl⟩ rfl rfl rfl rfl rfl (by as_aux_lemma => kernel_rfl) Try.func9 (by as_aux_lemma => kernel_rfl)
    (of_decide_eq_true (by as_aux_lemma => kernel_rfl)) (by unfold Func.isWrapper; first | (rw [if_pos (by decide +kernel)]; kernel_rfl) | (rw [if_neg (by decide +kernel)]; exact ⟨rfl, rfl⟩))
    (fun os started H enc _ => lifted os started H enc)

theorem proved : Rows.FnExactMissedOfSaid := over
#print axioms proved
end Go.Proofs.Ytkjmlpdbnnmlhaa.missedOf
