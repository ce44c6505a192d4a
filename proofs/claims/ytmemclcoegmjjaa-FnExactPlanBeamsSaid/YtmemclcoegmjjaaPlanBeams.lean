/- The law on PlanBeams answers true at every list of beams and every tick. No condition. -/
import Derived.Test.YtmemclcoegmjjaaRows
import Derived.Test.YtmemclcoegmjjaaSlc
import Derived.Test.YtmemclcoegmjjaaSmall
import Derived.Test.YtmemclcoegmjjaaOpens
import Derived.Test.YtmemclcoegmjjaaListI
import Derived.Test.YtmemclcoegmjjaaNestI
import Derived.Test.YtmemclcoegmjjaaBeams
import Derived.Test.YtmemclcoegmjjaaListBeam
import Derived.Test.YtmemclcoegmjjaaListSlot
import Derived.Test.YtmemclcoegmjjaaListDir
import Derived.Test.YtmemclcoegmjjaaPlanNum
import Derived.Test.YtmemclcoegmjjaaSwT
import Derived.Test.YtmemclcoegmjjaaBeamsOk
import Derived.Test.YtmemclcoegmjjaaPlanDue
import Derived.Test.YtmemclcoegmjjaaPlanIs
import Derived.Test.YtmemclcoegmjjaaFarF
import Derived.Test.YtmemclcoegmjjaaNestG
import Derived.Test.YtmemclcoegmjjaaHeapN
import Derived.Test.YtmemclcoegmjjaaHeapM
import Derived.Test.YtmemclcoegmjjaaHeapW
import Derived.Test.YtmemclcoegmjjaaHeapU
import Derived.Test.YtmemclcoegmjjaaHeapP
import Derived.Test.YtmemclcoegmjjaaPlanP
import Derived.Test.YtmemclcoegmjjaaPlanQ
import Derived.Test.YtmemclcoegmjjaaJobsQ
import Derived.Test.YtmemclcoegmjjaaPlanI
import Derived.Test.YtmemclcoegmjjaaPlanM
import Derived.Test.YtmemclcoegmjjaaPlanLaw
import Derived.WalkKit
import Derived.ProofKit
import Derived.OpenShut
import Derived.ShutString
import Derived.ChangeOld
import Derived.Below
import Derived.Lib.Hide
import Derived.BigQuiet
import Derived.Deep.QuietTactic
import Derived.WalkLawsBesides
import Derived.Outline
import Derived.Deep.LoopGhost
namespace Go.Proofs.Ytmemclcoegmjjaa.planBeams
open Go.ChangeShapes Go.WideShapes Go.ChangeAt Go.RowKit
open Go.ChangeMaps (open_string shut_string)
set_option linter.unusedVariables false
theorem own : ownKnob Try.prog.godebug = none := by kernel_rfl
theorem laidOut : laidOutB Try.prog = true := by kernel_rfl
open Go Go.RowKit
open Go.Proofs.Ytmemclcoegmjjaa.slc Go.Proofs.Ytmemclcoegmjjaa.small Go.Proofs.Ytmemclcoegmjjaa.opens Go.Proofs.Ytmemclcoegmjjaa.listI Go.Proofs.Ytmemclcoegmjjaa.beams Go.Proofs.Ytmemclcoegmjjaa.listBeam Go.Proofs.Ytmemclcoegmjjaa.listSlot Go.Proofs.Ytmemclcoegmjjaa.planNum Go.Proofs.Ytmemclcoegmjjaa.planP Go.Proofs.Ytmemclcoegmjjaa.planI Go.Proofs.Ytmemclcoegmjjaa.planM Go.Proofs.Ytmemclcoegmjjaa.planLaw
set_option maxHeartbeats 4000000 in
set_option maxRecDepth 100000 in
theorem law (A0 : Option Addr) (c0 : Nat) (z0 : List Bm) (a1 : Int) (w : World) (hm0 : z0.length ≤ 9223372036854775807) (hr0 : Rd w w.heap.size A0 (z0.length * 4) (bcell z0)) :
    Calls Try.prog 7 #[.slice A0 z0.length c0, .int .i64 a1] w fun e w' => e = .returned (.bool true) ∧ Below w.heap.size w w' := by
  by_cases hl0 : z0.length ≤ 1048576
  · have hz0 := hl0
    have hx := pcell_ints (PB z0 a1) ((PB z0 a1).length * 2)
    have hxl : (PB z0 a1).length ≤ 65536 := (Nat.le_trans (PB_len z0 a1) (by decide))
    go_enter Try.func7, Try.ntmps7
    go_wp2_with fail
    refine (szB _ _ _ _ hl0).mono ?_
    rintro e w' ⟨rfl, rfl⟩
    go_wp2_with fail
    refine (toB _ _ _ _ _ (by omega) hr0).mono ?_
    rintro e w1 ⟨B1, d1, rfl, ho1, hg1⟩
    have R1 := Rd.of_lst ho1 rfl
    have y1 := hg1.size
    go_wp2_with fail
    refine (plan_spec _ _ _ _ _ _ hm0 R1 (Nat.le_refl _)).mono ?_
    rintro e w2 ⟨B2, d2, rfl, ho2, hg2⟩
    have R2 := Rd.of_lst ho2 rfl
    have y2 := hg2.size
    go_wp2_with fail
    refine (toB _ _ _ _ _ (by omega) ((hr0.kept0 (hg1.trans hg2) (Nat.le_refl _)).mono (hg1.trans hg2).size)).mono ?_
    rintro e w3 ⟨B3, d3, rfl, ho3, hg3⟩
    have R3 := Rd.of_lst ho3 rfl
    have y3 := hg3.size
    go_wp2_with fail
    refine (plan_impl _ _ _ _ _ _ hm0 R3 (Nat.le_refl _)).mono ?_
    rintro e w4 ⟨B4, d4, rfl, ho4, hg4⟩
    have R4 := Rd.of_lst ho4 rfl
    have y4 := hg4.size
    go_wp2_with fail
    refine (eqL_true _ _ _ _ _ _ _ _ (by omega) (Nat.le_refl _) hx R4 ((R2.kept0 (hg3.trans hg4) (Nat.le_refl _)).mono (hg3.trans hg4).size)).mono ?_
    rintro e w5 ⟨rfl, hg5⟩
    have y5 := hg5.size
    go_wp2_with fail
    refine (toB _ _ _ _ _ (by omega) ((hr0.kept0 ((((hg1.trans hg2).trans hg3).trans hg4).trans hg5) (Nat.le_refl _)).mono ((((hg1.trans hg2).trans hg3).trans hg4).trans hg5).size)).mono ?_
    rintro e w6 ⟨B6, d6, rfl, ho6, hg6⟩
    have R6 := Rd.of_lst ho6 rfl
    have y6 := hg6.size
    go_wp2_with fail
    refine (eqB_true _ _ _ _ _ _ _ _ (by omega) (Nat.le_refl _) ((R3.kept0 ((hg4.trans hg5).trans hg6) (Nat.le_refl _)).mono ((hg4.trans hg5).trans hg6).size) R6).mono ?_
    rintro e w7 ⟨rfl, hg7⟩
    have y7 := hg7.size
    have G7 := ((((((hg1.trans hg2).trans hg3).trans hg4).trans hg5).trans hg6).trans hg7)
    have X0_7 := own_kept0 ho3 (((hg4.trans hg5).trans hg6).trans hg7)
    have Q7 := own_kept0 ho4 ((hg5.trans hg6).trans hg7)
    have S7 := R2.kept0 ((((hg3.trans hg4).trans hg5).trans hg6).trans hg7) (Nat.le_refl _)
    have I0_7 := hr0.kept0 ((((((hg1.trans hg2).trans hg3).trans hg4).trans hg5).trans hg6).trans hg7) (Nat.le_refl _)
    go_wp2_with fail
    refine (markB1 _ _ _ _ _ _ _ (by omega) X0_7).mono ?_
    rintro e w8 ⟨rfl, hg8⟩
    have y8 := hg8.size
    have G8 := gb_new G7 hg8 (base_of ho3 (by omega))
    have Q8 := keep_new Q7 ho3 (by omega) hg8
    have S8 := S7.kept hg8 (by omega) (far_of ho3 (by omega))
    have I0_8 := I0_7.kept hg8 (by omega) (far_of ho3 (by omega))
    have T8 := Rd.of_lst Q8 rfl
    go_wp2_with fail
    refine (eqL_true _ _ _ _ _ _ _ _ (by omega) (Nat.le_refl _) hx T8 (S8.mono (by omega))).mono ?_
    rintro e w9 ⟨rfl, hg9⟩
    have y9 := hg9.size
    have Q9 := own_kept0 Q8 hg9
    have S9 := S8.kept0 hg9 (by omega)
    have I0_9 := I0_8.kept0 hg9 (by omega)
    have G9 := G8.trans hg9
    go_wp2_with fail
    refine (markL1 _ _ _ _ _ _ _ (by omega) Q9).mono ?_
    rintro e w10 ⟨rfl, hm10', hg10⟩
    have y10 := hg10.size
    have G10 := gb_new G9 hg10 (base_of ho4 (by omega))
    have S10 := S9.kept hg10 (by omega) (far_of ho4 (by omega))
    have I0_10 := I0_9.kept hg10 (by omega) (far_of ho4 (by omega))
    have M10 := Rd.of_lst hm10' rfl
    go_wp2_with fail
    refine (heldL1 _ _ _ _ _ (by omega) M10).mono ?_
    rintro e w' ⟨rfl, rfl⟩
    go_wp2_with fail
    refine (toB _ _ _ _ _ (by omega) (I0_10.mono (show _ ≤ w10.heap.size by omega))).mono ?_
    rintro e w11 ⟨B11, d11, rfl, ho11, hg11⟩
    have R11 := Rd.of_lst ho11 rfl
    have y11 := hg11.size
    go_wp2_with fail
    refine (plan_impl _ _ _ _ _ _ hm0 R11 (Nat.le_refl _)).mono ?_
    rintro e w12 ⟨B12, d12, rfl, ho12, hg12⟩
    have R12 := Rd.of_lst ho12 rfl
    have y12 := hg12.size
    go_wp2_with fail
    refine (eqL_true _ _ _ _ _ _ _ _ (by omega) (Nat.le_refl _) hx R12 ((S10.kept0 (hg11.trans hg12) (by omega)).mono (by omega))).mono ?_
    rintro e w13 ⟨rfl, hg13⟩
    have y13 := hg13.size
    go_wp2_with fail
    refine (heldL1 _ _ _ _ _ (by omega) (M10.kept0 ((hg11.trans hg12).trans hg13) (Nat.le_refl _))).mono ?_
    rintro e w' ⟨rfl, rfl⟩
    go_wp2_with fail
    go_ret
    exact ⟨rfl, gb_below (G10.trans ((hg11.trans hg12).trans hg13))⟩
  · go_enter Try.func7, Try.ntmps7
    go_wp2_with fail
    refine (szB_no _ _ _ _ (by omega) hm0).mono ?_
    rintro e w' ⟨rfl, rfl⟩
    go_wp2_with fail
    go_ret
    exact ⟨rfl, Below.refl _ _⟩

theorem walk (a0 : Option Addr) (len0 cap0 : Nat) (z0 : List Bm) (a1 : Int) (w : World) (l0 : z0.length = len0) (m0 : len0 ≤ maxLen) (w0 : ∀ x ∈ z0, BWf x) (r0 : Rd w w.heap.size a0 (len0 * 4) (bcell z0)) (w1 : (Lit.int .i64 a1).wf = true) :
    Calls Try.prog 7 #[.slice a0 len0 cap0, .int .i64 a1] w fun e w' => e = .returned (.bool true) ∧ Below w.heap.size w w' := by
  subst l0
  unfold maxLen at m0
  exact law a0 cap0 z0 a1 w (by omega) r0

set_option maxRecDepth 100000 in
theorem lifted (os : Os) (started : os.Started) (H : Type) (enc : TypeId × Value → H) :
    ReturnsInHanded {} Try.checked os 7 .any (Rows.fnExactPlanBeamsSpec.pre6 enc Try.prog Try.f7 Rows.fnExactPlanBeamsRow.domain false) (Rows.fnExactPlanBeamsSpec.post enc Try.prog Try.f7 false true false false) := by
  refine returnsInHanded_of_change (C := Try.checked) own started (by kernel_rfl) Try.func7
    (ChangeSpec.witness6 (enc := enc) (C := Try.checked) false ⟨#[], #[.slice none 0 0, .int .i64 0], []⟩ 8 (by kernel_rfl) (by kernel_rfl) (by kernel_rfl) (by kernel_rfl)) ?_
  intro W base args ds gs before hval0 hW hcnd _
  have hval : ∀ (j : Nat) t v, Try.f7.params[j]? = some t → args[j]? = some v → Value.okWide Try.prog W .any base t v := hval0
  have hW' := hW
  obtain ⟨p, q, hA0, hV, rfl, hfz, hnd⟩ := hW
  have hA : DataW.TrodAll enc Try.prog W 0 (fun _ => true) true Try.f7.params.toList args.toList ds p := hA0
  rw [Try.params7] at hA hval
  obtain ⟨v0, vs0, d0, ds0, p0, q0, hargs, rfl, rfl, h0, r0⟩ := trodAll_cons hA
  obtain ⟨v1, vs1, d1, ds1, p1, q1, rfl, rfl, rfl, h1, r1⟩ := trodAll_cons r0
  obtain ⟨rfl, rfl, rfl⟩ := trodAll_nil r1
  obtain rfl : args = #[v0, v1] := by cases args; simp_all
  obtain ⟨rfl, rfl⟩ := trodVars_none hV
  obtain ⟨a0, len0, cap0, rfl⟩ := okWide_slice Try.underlying85 (hval 0 85 v0 rfl rfl)
  have k0 := h0
  have lt0 : ∀ x ∈ p0, x.block < W.heap.size := by obtain ⟨m, hm⟩ := k0; exact DataW.trod_lt m _ _ _ hm
  obtain ⟨z0, l0, m0, w0, r0'⟩ := opened_beams Try.underlying85 Try.underlying165 (by kernel_rfl) rfl rfl rfl (by kernel_rfl) (by kernel_rfl) (by kernel_rfl) Try.underlying163 rfl rfl (by kernel_rfl) (by kernel_rfl) Try.underlying2 Try.underlying2 Try.underlying2 Try.underlying2 k0
  obtain ⟨a1, rfl, rfl, rfl, w1⟩ := open_int Try.underlying2 (hval 1 2 v1 rfl rfl) h1
  clear hA0 hval0
  refine (walk a0 len0 cap0 z0 a1 W l0 m0 w0 r0' w1).mono fun e W' ⟨he, bel⟩ => ?_
  subst he
  exact ⟨_, rfl, _, _, _, [], _, [], hW', trodAll_mk1 (shut_bool Try.underlying4 _), (trodAll_cons_mk (Below.trod laidOut (by kernel_rfl) (of_decide_eq_true (by kernel_rfl)) k0 bel lt0) (trodAll_cons_mk (shut_int Try.underlying2 w1) trodAll_mk0)), rfl, bel.frame _, fun h => by cases h⟩

set_option maxHeartbeats 8000000 in
theorem over : Rows.fnExactPlanBeamsRow.holds Try.pinned (OpenSpec.ofChange Rows.fnExactPlanBeamsSpec) :=
  OpenClaim.holds_of_wide 7 Try.f7 rfl rfl rfl rfl rfl rfl rfl ⟨rfl, rfl, rfl, rfl, rfl⟩ rfl rfl rfl rfl rfl (by as_aux_lemma => kernel_rfl) Try.func7 (by as_aux_lemma => kernel_rfl)
    (of_decide_eq_true (by as_aux_lemma => kernel_rfl)) (by unfold Func.isWrapper; first | (rw [if_pos (by decide +kernel)]; kernel_rfl) | (rw [if_neg (by decide +kernel)]; exact ⟨rfl, rfl⟩))
    (fun os started H enc _ => lifted os started H enc)

theorem proved : Rows.FnExactPlanBeamsSaid := over
#print axioms proved
end Go.Proofs.Ytmemclcoegmjjaa.planBeams
