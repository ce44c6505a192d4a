/- The law on NearestBeam answers true at every list of beams and every direction. No condition. -/
import Derived.Test.YtkjmlpdbnnmlhaaRows
import Derived.Test.YtkjmlpdbnnmlhaaSlc
import Derived.Test.YtkjmlpdbnnmlhaaSmall
import Derived.Test.YtkjmlpdbnnmlhaaOpens
import Derived.Test.YtkjmlpdbnnmlhaaBeams
import Derived.Test.YtkjmlpdbnnmlhaaListBeam
import Derived.Test.YtkjmlpdbnnmlhaaPlanNum
import Derived.Test.YtkjmlpdbnnmlhaaBeamsOk
import Derived.Test.YtkjmlpdbnnmlhaaNearC
import Derived.WalkKit
import Derived.ProofKit
import Derived.OpenShut
import Derived.ShutString
import Derived.ChangeOld
import Derived.Below
import Derived.Lib.Hide
import Derived.BigQuiet
import Derived.Deep.QuietTactic
import Derived.WalkLawsBesides
import Derived.Outline
import Derived.Deep.LoopGhost
import Derived.Deep.RegionHeld3
import Derived.Deep.QuietTactic
import Derived.BigQuiet
namespace Go.Proofs.Ytkjmlpdbnnmlhaa.nearestBeam
open Go.ChangeShapes Go.WideShapes Go.ChangeAt Go.RowKit
open Go.ChangeMaps (open_string shut_string)
set_option linter.unusedVariables false
theorem own : ownKnob Try.prog.godebug = none := by kernel_rfl
theorem laidOut : laidOutB Try.prog = true := by kernel_rfl
open Go Go.RowKit
open Go.Proofs.Ytkjmlpdbnnmlhaa.slc Go.Proofs.Ytkjmlpdbnnmlhaa.small Go.Proofs.Ytkjmlpdbnnmlhaa.opens Go.Proofs.Ytkjmlpdbnnmlhaa.beams Go.Proofs.Ytkjmlpdbnnmlhaa.listBeam Go.Proofs.Ytkjmlpdbnnmlhaa.planNum Go.Proofs.Ytkjmlpdbnnmlhaa.beamsOk Go.Proofs.Ytkjmlpdbnnmlhaa.nearC

set_option maxHeartbeats 1600000 in
set_option maxRecDepth 100000 in
theorem law (A0 : Option Addr) (c0 : Nat) (z0 : List Bm) (u v : Int) (w : World) (hm : z0.length ≤ 9223372036854775807) (hr : Rd w w.heap.size A0 (z0.length * 4) (bcell z0)) :
    Calls Try.prog 14 #[.slice A0 z0.length c0, .agg #[.int .i64 u, .int .i64 v]] w fun e w' => e = .returned (.bool true) ∧ Below w.heap.size w w' := by
  have hbox : w.grownBy (w.alloc (.cells #[.int .i64 u, .int .i64 v] 30)) none := World.grownBy_alloc _ _ _
  obtain ⟨hb0, hb1⟩ := boxed2 (World.grownBy.refl (w.alloc (.cells #[.int .i64 u, .int .i64 v] 30)) none)
  have HR := Lib.hid (fun (w' : World) (hg : w.grownBy w' none) => (hr.kept0 hg (Nat.le_refl _)).mono hg.size)
  clear hr
  by_cases hlen : z0.length ≤ 1048576
  · go_enter Try.func14, Try.ntmps14
    go_wp2_with fail
    refine (szB _ _ _ _ hlen).mono ?_
    rintro e w' ⟨rfl, rfl⟩
    go_wp2_with fail
    go_region_held3 (fun w' => w'.cell? ⟨w.heap.size, 0, none⟩ = some (.int .i64 u) ∧ w'.cell? ⟨w.heap.size, 1, none⟩ = some (.int .i64 v) ∧ w.grownBy w' none)
      (first
        | (go_split_ands
           exact ⟨hg.cell (by assumption) (by simp), hg.cell (by assumption) (by simp), World.grownBy.trans (by assumption) hg⟩)
        | exact ⟨hb0, hb1, ⟨hbox.os, hbox.tape, hbox.output, hbox.size, hbox.block⟩⟩)
      ((first
        | (go_at_call 17; refine (toB _ _ _ _ _ hlen (HR.out _ ?_)).mono ?_; (first | assumption | exact hbox | exact ⟨hbox.os, hbox.tape, hbox.output, hbox.size, hbox.block⟩); rintro e w1 ⟨A1, c1, rfl, ho1, hg⟩; have R1 := Rd.of_lst ho1 rfl)
        | (go_at_call 21; refine (to_dir _ _ _).mono ?_; rintro e w2 ⟨rfl, hg⟩; have R2 := (R1.kept0 hg (Nat.le_refl _)).mono hg.size)
        | (go_at_call 58; refine (near_spec _ _ _ _ _ _ _ hm R2 (Nat.le_refl _)).mono ?_; rintro e w3 ⟨rfl, hg⟩)))
    obtain ⟨d0, d1, g3⟩ : (w3.cell? ⟨w.heap.size, 0, none⟩ = some (.int .i64 u) ∧ w3.cell? ⟨w.heap.size, 1, none⟩ = some (.int .i64 v) ∧ w.grownBy w3 none) := by assumption
    clear hbox hb0 hb1
    go_wp2_with fail
    refine (toB _ _ _ _ _ hlen (HR.out _ g3)).mono ?_
    rintro e w4 ⟨A4, c4, rfl, ho4, hg4⟩
    have R4 := Rd.of_lst ho4 rfl
    have d0b := hg4.cell d0 (by simp)
    have d1b := hg4.cell d1 (by simp)
    go_wp2_with fail
    refine (to_dir u v _).mono ?_
    rintro e w5 ⟨rfl, hg5⟩
    go_wp2_with fail
    refine (near_impl _ _ _ _ _ _ _ hm ((R4.kept0 hg5 (Nat.le_refl _)).mono hg5.size) (Nat.le_refl _)).mono ?_
    rintro e w6 ⟨rfl, hg6⟩
    have g6 := ((g3.trans hg4).trans hg5).trans hg6
    go_wp2_with fail
    refine (toB _ _ _ _ _ hlen (HR.out _ g6)).mono ?_
    rintro e w7 ⟨A7, c7, rfl, ho7, hg7⟩
    have R7 := Rd.of_lst ho7 rfl
    have h47 := (hg5.trans hg6).trans hg7
    go_wp2_with fail
    refine (eqB_true _ _ _ _ _ _ _ _ hm (Nat.le_refl _) ((R4.kept0 h47 (Nat.le_refl _)).mono h47.size) R7).mono ?_
    rintro e w8 ⟨rfl, hg8⟩
    go_wp2_with fail
    go_ret
    exact ⟨rfl, gb_below ((g6.trans hg7).trans hg8)⟩
  · go_enter Try.func14, Try.ntmps14
    go_wp2_with fail
    refine (szB_no _ _ _ _ (by omega) hm).mono ?_
    rintro e w' ⟨rfl, rfl⟩
    go_wp2_with fail
    go_ret
    exact ⟨rfl, gb_below hbox⟩

theorem walk (a0 : Option Addr) (len0 cap0 : Nat) (z0 : List Bm) (a1x a1y : Int) (w : World) (l0 : z0.length = len0) (m0 : len0 ≤ maxLen) (w0 : ∀ x ∈ z0, BWf x) (r0 : Rd w w.heap.size a0 (len0 * 4) (bcell z0)) (w1x : (Lit.int .i64 a1x).wf = true) (w1y : (Lit.int .i64 a1y).wf = true) :
    Calls Try.prog 14 #[.slice a0 len0 cap0, .agg #[.int .i64 a1x, .int .i64 a1y]] w fun e w' => e = .returned (.bool true) ∧ Below w.heap.size w w' := by
  subst l0
  unfold maxLen at m0
  exact law a0 cap0 z0 a1x a1y w (by omega) r0

set_option maxRecDepth 100000 in
theorem lifted (os : Os) (started : os.Started) (H : Type) (enc : TypeId × Value → H) :
    ReturnsInHanded {} Try.checked os 14 .any (Rows.fnExactNearestBeamSpec.pre6 enc Try.prog Try.f14 Rows.fnExactNearestBeamRow.domain false) (Rows.fnExactNearestBeamSpec.post enc Try.prog Try.f14 false true false false) := by
  refine returnsInHanded_of_change (C := Try.checked) own started (by kernel_rfl) Try.func14
    (ChangeSpec.witness6 (enc := enc) (C := Try.checked) false ⟨#[], #[.slice none 0 0, .agg #[.int .i64 0, .int .i64 0]], []⟩ 8 (by kernel_rfl) (by kernel_rfl) (by kernel_rfl) (by kernel_rfl)) ?_
  intro W base args ds gs before hval0 hW hcnd _
  have hval : ∀ (j : Nat) t v, Try.f14.params[j]? = some t → args[j]? = some v → Value.okWide Try.prog W .any base t v := hval0
  have hW' := hW
  obtain ⟨p, q, hA0, hV, rfl, hfz, hnd⟩ := hW
  have hA : DataW.TrodAll enc Try.prog W 0 (fun _ => true) true Try.f14.params.toList args.toList ds p := hA0
  rw [Try.params14] at hA hval
  obtain ⟨v0, vs0, d0, ds0, p0, q0, hargs, rfl, rfl, h0, r0⟩ := trodAll_cons hA
  obtain ⟨v1, vs1, d1, ds1, p1, q1, rfl, rfl, rfl, h1, r1⟩ := trodAll_cons r0
  obtain ⟨rfl, rfl, rfl⟩ := trodAll_nil r1
  obtain rfl : args = #[v0, v1] := by cases args; simp_all
  obtain ⟨rfl, rfl⟩ := trodVars_none hV
  obtain ⟨a0, len0, cap0, rfl⟩ := okWide_slice Try.underlying22 (hval 0 22 v0 rfl rfl)
  have k0 := h0
  have lt0 : ∀ x ∈ p0, x.block < W.heap.size := by obtain ⟨m, hm⟩ := k0; exact DataW.trod_lt m _ _ _ hm
  obtain ⟨z0, l0, m0, w0, r0'⟩ := opened_beams Try.underlying22 Try.underlying81 (by kernel_rfl) rfl rfl rfl (by kernel_rfl) (by kernel_rfl) (by kernel_rfl) Try.underlying30 rfl rfl (by kernel_rfl) (by kernel_rfl) Try.underlying2 Try.underlying2 Try.underlying2 Try.underlying2 k0
  obtain ⟨a1x, a1y, rfl, rfl, rfl, w1x, w1y⟩ := opened_pair Try.underlying30 (by kernel_rfl) (by kernel_rfl) Try.underlying2 Try.underlying2 (hval 1 30 v1 rfl rfl) h1
  clear hA0 hval0
  refine (walk a0 len0 cap0 z0 a1x a1y W l0 m0 w0 r0' w1x w1y).mono fun e W' ⟨he, bel⟩ => ?_
  subst he
  exact ⟨_, rfl, _, _, _, [], _, [], hW', trodAll_mk1 (shut_bool Try.underlying4 _), (trodAll_cons_mk (Below.trod laidOut (by kernel_rfl) (of_decide_eq_true (by kernel_rfl)) k0 bel lt0) (trodAll_cons_mk (shut_pair Try.underlying30 (by kernel_rfl) (by kernel_rfl) Try.underlying2 Try.underlying2 w1x w1y) trodAll_mk0)), rfl, bel.frame _, fun h => by cases h⟩

set_option maxHeartbeats 8000000 in
theorem over : Rows.fnExactNearestBeamRow.holds Try.pinned (OpenSpec.ofChange Rows.fnExactNearestBeamSpec) :=
  OpenClaim.holds_of_wide 14 Try.f14 rfl rfl rfl rfl rfl rfl rfl ⟨rfl, rfl, rfl, rfl, rfl⟩ rfl rfl rfl rfl rfl (by as_aux_lemma => kernel_rfl) Try.func14 (by as_aux_lemma => kernel_rfl)
    (of_decide_eq_true (by as_aux_lemma => kernel_rfl)) (by unfold Func.isWrapper; first | (rw [if_pos (by decide +kernel)]; kernel_rfl) | (rw [if_neg (by decide +kernel)]; exact ⟨rfl, rfl⟩))
    (fun os started H enc _ => lifted os started H enc)

theorem proved : Rows.FnExactNearestBeamSaid := over
#print axioms proved
end Go.Proofs.Ytkjmlpdbnnmlhaa.nearestBeam
