/- The law on SteeringOf answers true at every list of places and every direction. No condition. -/
import Derived.Test.YthnifmgjgdmmoaaRows
import Derived.Test.YthnifmgjgdmmoaaSlc
import Derived.Test.YthnifmgjgdmmoaaSmall
import Derived.Test.YthnifmgjgdmmoaaOpens
import Derived.Test.YthnifmgjgdmmoaaPlaces
import Derived.Test.YthnifmgjgdmmoaaPlaceSet
import Derived.Test.YthnifmgjgdmmoaaListP
import Derived.Test.YthnifmgjgdmmoaaSteps
import Derived.Test.YthnifmgjgdmmoaaListC
import Derived.Test.YthnifmgjgdmmoaaFloats
import Derived.Test.YthnifmgjgdmmoaaRound
import Derived.Test.YthnifmgjgdmmoaaValues
import Derived.Test.YthnifmgjgdmmoaaConv
import Derived.Test.YthnifmgjgdmmoaaFWalk
import Derived.Test.YthnifmgjgdmmoaaFinWalk
import Derived.Test.YthnifmgjgdmmoaaFloat2
import Derived.Test.YthnifmgjgdmmoaaFloat3
import Derived.Test.YthnifmgjgdmmoaaPhase
import Derived.Test.YthnifmgjgdmmoaaSine
import Derived.Test.YthnifmgjgdmmoaaPhasor
import Derived.Test.YthnifmgjgdmmoaaSteerNum
import Derived.Test.YthnifmgjgdmmoaaSteering
import Derived.Test.YthnifmgjgdmmoaaSteering2
import Derived.WalkKit
import Derived.ProofKit
import Derived.OpenShut
import Derived.ShutString
import Derived.ChangeOld
import Derived.Below
import Derived.Lib.Hide
import Derived.BigQuiet
import Derived.Deep.QuietTactic
import Derived.WalkLawsBesides
import Derived.Outline
import Derived.Deep.LoopGhost
import Derived.Deep.RegionHeld3
namespace Go.Proofs.Ythnifmgjgdmmoaa.steeringOf
open Go.ChangeShapes Go.WideShapes Go.ChangeAt Go.RowKit
open Go.ChangeMaps (open_string shut_string)
set_option linter.unusedVariables false
theorem own : ownKnob Try.prog.godebug = none := by kernel_rfl
theorem laidOut : laidOutB Try.prog = true := by kernel_rfl
open Go Ieee Go.RowKit
open Go.Proofs.Ythnifmgjgdmmoaa.slc Go.Proofs.Ythnifmgjgdmmoaa.small Go.Proofs.Ythnifmgjgdmmoaa.opens Go.Proofs.Ythnifmgjgdmmoaa.places Go.Proofs.Ythnifmgjgdmmoaa.listP Go.Proofs.Ythnifmgjgdmmoaa.listC Go.Proofs.Ythnifmgjgdmmoaa.steering2

theorem cell_past {a b : World} {A : Option Addr} {B : Nat} {p : Addr} {x : Value} (hg : a.grownBy b (A.map Addr.block)) (h : a.cell? p = some x) (hA : ∀ g, A.map Addr.block = some g → B ≤ g) (hp : p.block < B) : b.cell? p = some x :=
  hg.cell h fun e => by have := hA _ e.symm; omega

set_option maxHeartbeats 4000000 in
set_option maxRecDepth 100000 in
theorem law (A : Option Addr) (c : Nat) (ps : List (Int × Int)) (u v : Int) (xs : List (Nat × Nat)) (ok : Bool) (w : World) (hm : ps.length ≤ 9223372036854775807) (hl : xs.length ≤ 16) (hfin : FinL xs) (hr : Rd w w.heap.size A (ps.length * 2) (pcell ps))
    (hs : Sted 55 ps u v xs ok) (hi : Sted 57 ps u v xs ok) :
    Calls Try.prog 14 #[.slice A ps.length c, .agg #[.int .i64 u, .int .i64 v]] w fun e w' => e = .returned (.bool true) ∧ Below w.heap.size w w' := by
  have hp := pcell_ints ps (ps.length * 2)
  have hx := hfin.cpx
  have hbox := World.grownBy_alloc w (.cells #[.int .i64 u, .int .i64 v] 63) none
  by_cases hlen : ps.length ≤ 1048576
  · have hrd : ∀ w' : World, w.grownBy w' none → Rd w' w'.heap.size A (ps.length * 2) (pcell ps) := fun w' hg => (hr.kept0 hg (Nat.le_refl _)).mono hg.size
    have hb2 := boxed2 (World.grownBy.refl (w.alloc (.cells #[.int .i64 u, .int .i64 v] 63)) none)
    obtain ⟨hb0, hb1⟩ := hb2
    have HS := Lib.hid hs
    have HI := Lib.hid hi
    have HR := Lib.hid hrd
    clear hs hi hrd
    go_enter Try.func14, Try.ntmps14
    go_wp2_with fail
    refine (szP _ _ _ _ hlen).mono ?_
    rintro e w' ⟨rfl, rfl⟩
    go_wp2_with fail
    go_region_held3 (fun w' => w'.cell? ⟨w.heap.size, 0, none⟩ = some (.int .i64 u) ∧ w'.cell? ⟨w.heap.size, 1, none⟩ = some (.int .i64 v) ∧ w.grownBy w' none)
      (first
        | (go_split_ands
           exact ⟨hg.cell (by assumption) (by simp), hg.cell (by assumption) (by simp), World.grownBy.trans (by assumption) hg⟩)
        | exact ⟨hb0, hb1, ⟨hbox.os, hbox.tape, hbox.output, hbox.size, hbox.block⟩⟩)
      ((first
        | (go_at_call 56; refine (toP _ _ _ _ _ hlen hp (HR.out _ ?_)).mono ?_; (first | assumption | exact hbox | exact ⟨hbox.os, hbox.tape, hbox.output, hbox.size, hbox.block⟩); rintro e w1 ⟨A1, c1, rfl, ho1, hg⟩; have R1 := Rd.of_lst ho1 rfl)
        | (go_at_call 52; refine (to_dir _ _ _).mono ?_; rintro e w2 ⟨rfl, hg⟩; have R2 := (R1.kept0 hg (Nat.le_refl _)).mono hg.size)
        | (go_at_call 55; refine (HS.out _ _ _ _ hm R2 (Nat.le_refl _)).mono ?_; rintro e w3 ⟨A3, c3, rfl, ho3, hg⟩)))
    obtain ⟨d0, d1, g3⟩ : (w3.cell? ⟨w.heap.size, 0, none⟩ = some (.int .i64 u) ∧ w3.cell? ⟨w.heap.size, 1, none⟩ = some (.int .i64 v) ∧ w.grownBy w3 none) := by assumption
    have hw3 : w.heap.size < w3.heap.size := World.block_lt_of_cell? w3 _ d0
    have S3 := Rd.of_lst ho3 (Nat.mul_one _).symm
    clear ho3 hbox hb0 hb1
    go_wp2_with fail
    refine (toP _ _ _ _ _ hlen hp (HR.out _ g3)).mono ?_
    rintro e w4 ⟨A4, c4, rfl, ho4, hg4⟩
    have R4 := Rd.of_lst ho4 rfl
    have d0b := hg4.cell d0 (by simp)
    have d1b := hg4.cell d1 (by simp)
    go_wp2_with fail
    refine (to_dir u v _).mono ?_
    rintro e w5 ⟨rfl, hg5⟩
    go_wp2_with fail
    refine (HI.out _ _ _ _ hm ((R4.kept0 hg5 (Nat.le_refl _)).mono hg5.size) (Nat.le_refl _)).mono ?_
    rintro e w6 ⟨A6, c6, rfl, ho6, hg6⟩
    have S6 := Rd.of_lst ho6 (Nat.mul_one _).symm
    have h36 := (hg4.trans hg5).trans hg6
    have g6 := g3.trans h36
    clear d0b d1b
    go_wp2_with fail
    refine (eqC_true _ _ _ _ _ _ _ _ (by omega) (Nat.le_refl _) hx S6 ((S3.kept0 h36 (Nat.le_refl _)).mono h36.size)).mono ?_
    rintro e w7 ⟨rfl, hg7⟩
    have g7 := g6.trans hg7
    go_wp2_with fail
    refine (toP _ _ _ _ _ hlen hp (HR.out _ g7)).mono ?_
    rintro e w8 ⟨A8, c8, rfl, ho8, hg8⟩
    have R8 := Rd.of_lst ho8 rfl
    have h48 := ((hg5.trans hg6).trans hg7).trans hg8
    go_wp2_with fail
    refine (eqP_true _ _ _ _ _ _ _ _ hm (Nat.le_refl _) hp ((R4.kept0 h48 (Nat.le_refl _)).mono h48.size) R8).mono ?_
    rintro e w9 ⟨rfl, hg9⟩
    have h49 := h48.trans hg9
    have g9 := (g7.trans hg8).trans hg9
    have ho49 := own_kept0 ho4 h49
    go_wp2_with fail
    refine (markP1 _ _ _ _ _ _ _ (by omega) ho49).mono ?_
    rintro e w10 ⟨rfl, ho10, hg10⟩
    have b4 := own_base ho4
    have b6 := own_base ho6
    have s45 := hg5.size
    have h69 := (hg7.trans hg8).trans hg9
    have f46 : ∀ b, A6.map Addr.block = some b → some b ≠ A4.map Addr.block := fun b hb e => by
      have x1 := (b6 b hb).1
      have x2 := (b4 b e.symm).2
      omega
    have S6c := (S6.kept0 h69 (Nat.le_refl _)).kept hg10 h69.size (fun b hb _ => f46 b hb)
    have h39 := h36.trans h69
    have S3c := (S3.kept0 h39 (Nat.le_refl _)).kept hg10 h39.size (far_of ho4 (Nat.le_refl _))
    have z6 := Nat.le_trans h69.size hg10.size
    have z3 := Nat.le_trans h39.size hg10.size
    have ho6c := (own_kept0 ho6 h69).kept hg10 (by
      cases h6 : (Value.slice A6 xs.length c6).ownBlock with
      | none => exact .inl rfl
      | some b => exact .inr (f46 b (by rw [own_blk] at h6; exact h6)))
    have g10 := gb_new g9 hg10 (base_of ho4 (Nat.le_of_lt hw3))
    go_wp2_with fail
    refine (eqC_true _ _ _ _ _ _ _ _ (by omega) (Nat.le_refl _) hx (S6c.mono z6) (S3c.mono z3)).mono ?_
    rintro e w11 ⟨rfl, hg11⟩
    have ho6d := own_kept0 ho6c hg11
    have S3d := S3c.kept0 hg11 z3
    have z3d := Nat.le_trans z3 hg11.size
    have g11 := g10.trans hg11
    go_wp2_with fail
    refine (markC1 _ _ _ _ _ _ _ (by omega) ho6d).mono ?_
    rintro e w12 ⟨rfl, ho12, hg12⟩
    have s35 : w3.heap.size ≤ w5.heap.size := Nat.le_trans hg4.size hg5.size
    have S3e := S3d.kept hg12 z3d (far_of ho6 s35)
    have z3e := Nat.le_trans z3d hg12.size
    have M12 := Rd.of_lst ho12 (Nat.mul_one _).symm
    have g12 := gb_new g11 hg12 (base_of ho6 (Nat.le_trans (Nat.le_of_lt hw3) s35))
    have d0c := (hg11.cell (cell_past hg10 (h39.cell d0 (by simp)) (base_of ho4 (Nat.le_refl _)) hw3) (by simp))
    have d1c := (hg11.cell (cell_past hg10 (h39.cell d1 (by simp)) (base_of ho4 (Nat.le_refl _)) hw3) (by simp))
    have d0e := cell_past hg12 d0c (base_of ho6 s35) hw3
    have d1e := cell_past hg12 d1c (base_of ho6 s35) hw3
    go_wp2_with fail
    refine (heldC1 _ _ _ _ _ (by omega) M12).mono ?_
    rintro e w' ⟨rfl, rfl⟩
    clear hg10 hg11 hg12 h69 h39 f46 b4 b6 d0c d1c d0 d1 S6 S6c ho6c ho6d S3c S3d ho49 h48 h49 R8 ho8 hg8 hg9 hg7 hg4 hg5 hg6 h36 ho10 ho12
    go_wp2_with fail
    go_region_held3 (fun w' => w'.cell? ⟨w.heap.size, 0, none⟩ = some (.int .i64 u) ∧ w'.cell? ⟨w.heap.size, 1, none⟩ = some (.int .i64 v) ∧ w.grownBy w' none)
      (first
        | (go_split_ands
           exact ⟨hg.cell (by assumption) (by simp), hg.cell (by assumption) (by simp), World.grownBy.trans (by assumption) hg⟩)
        | exact ⟨d0e, d1e, ⟨g12.os, g12.tape, g12.output, g12.size, g12.block⟩⟩)
      ((first
        | (go_at_call 56; refine (toP _ _ _ _ _ hlen hp (HR.out _ ?_)).mono ?_; (first | assumption | exact ⟨g12.os, g12.tape, g12.output, g12.size, g12.block⟩); rintro e w13 ⟨A13, c13, rfl, ho13, hg⟩; have hg13 := hg; have R13 := Rd.of_lst ho13 rfl)
        | (go_at_call 52; refine (to_dir _ _ _).mono ?_; rintro e w14 ⟨rfl, hg⟩; have hg14 := hg; have R14 := (R13.kept0 hg (Nat.le_refl _)).mono hg.size)
        | (go_at_call 57; refine (HI.out _ _ _ _ hm R14 (Nat.le_refl _)).mono ?_; rintro e w15 ⟨A15, c15, rfl, ho15, hg⟩)))
    obtain ⟨_, _, g15⟩ : (w15.cell? ⟨w.heap.size, 0, none⟩ = some (.int .i64 u) ∧ w15.cell? ⟨w.heap.size, 1, none⟩ = some (.int .i64 v) ∧ w.grownBy w15 none) := by assumption
    have h1215 := (((gb_drewN w12 1 none).trans hg13).trans hg14).trans hg
    have S15 := Rd.of_lst ho15 (Nat.mul_one _).symm
    have z315 := Nat.le_trans z3e h1215.size
    go_wp2_with fail
    refine (eqC_true _ _ _ _ _ _ _ _ (by omega) (Nat.le_refl _) hx S15 ((S3e.kept0 h1215 z3e).mono z315)).mono ?_
    rintro e w16 ⟨rfl, hg16⟩
    have M16 := M12.kept0 (h1215.trans hg16) (Nat.le_refl _)
    go_wp2_with fail
    refine (heldC1 _ _ _ _ _ (by omega) M16).mono ?_
    rintro e w' ⟨rfl, rfl⟩
    go_wp2_with fail
    go_ret
    exact ⟨rfl, gb_below (g15.trans hg16)⟩
  · go_enter Try.func14, Try.ntmps14
    go_wp2_with fail
    refine (szP_no _ _ _ _ (by omega) hm).mono ?_
    rintro e w' ⟨rfl, rfl⟩
    go_wp2_with fail
    go_ret
    exact ⟨rfl, gb_below hbox⟩

theorem walk (a0 : Option Addr) (len0 cap0 : Nat) (z0 : List (Int × Int)) (a1x a1y : Int) (w : World) (l0 : z0.length = len0) (m0 : len0 ≤ maxLen) (w0 : ∀ x ∈ z0, (Lit.int .i64 x.1).wf = true ∧ (Lit.int .i64 x.2).wf = true) (r0 : Rd w w.heap.size a0 (len0 * 2) (pcell z0)) (w1x : (Lit.int .i64 a1x).wf = true) (w1y : (Lit.int .i64 a1y).wf = true) :
    Calls Try.prog 14 #[.slice a0 len0 cap0, .agg #[.int .i64 a1x, .int .i64 a1y]] w fun e w' => e = .returned (.bool true) ∧ Below w.heap.size w w' := by
  subst l0
  unfold maxLen at m0
  exact law a0 cap0 z0 a1x a1y _ _ w (by omega) (steR_len z0 a1x a1y) (steR_fin z0 a1x a1y) r0 (spec_c z0 a1x a1y) (impl_c z0 a1x a1y)

set_option maxRecDepth 100000 in
theorem lifted (os : Os) (started : os.Started) (H : Type) (enc : TypeId × Value → H) :
    ReturnsInHanded {} Try.checked os 14 .any (Rows.fnExactSteeringOfSpec.pre6 enc Try.prog Try.f14 Rows.fnExactSteeringOfRow.domain false) (Rows.fnExactSteeringOfSpec.post enc Try.prog Try.f14 false true false false) := by
  refine returnsInHanded_of_change (C := Try.checked) own started (by kernel_rfl) Try.func14
    (ChangeSpec.witness6 (enc := enc) (C := Try.checked) false ⟨#[], #[.slice none 0 0, .agg #[.int .i64 0, .int .i64 0]], []⟩ 8 (by kernel_rfl) (by kernel_rfl) (by kernel_rfl) (by kernel_rfl)) ?_
  intro W base args ds gs before hval0 hW hcnd _
  have hval : ∀ (j : Nat) t v, Try.f14.params[j]? = some t → args[j]? = some v → Value.okWide Try.prog W .any base t v := hval0
  have hW' := hW
  obtain ⟨p, q, hA0, hV, rfl, hfz, hnd⟩ := hW
  have hA : DataW.TrodAll enc Try.prog W 0 (fun _ => true) true Try.f14.params.toList args.toList ds p := hA0
  rw [Try.params14] at hA hval
  obtain ⟨v0, vs0, d0, ds0, p0, q0, hargs, rfl, rfl, h0, r0⟩ := trodAll_cons hA
  obtain ⟨v1, vs1, d1, ds1, p1, q1, rfl, rfl, rfl, h1, r1⟩ := trodAll_cons r0
  obtain ⟨rfl, rfl, rfl⟩ := trodAll_nil r1
  obtain rfl : args = #[v0, v1] := by cases args; simp_all
  obtain ⟨rfl, rfl⟩ := trodVars_none hV
  obtain ⟨a0, len0, cap0, rfl⟩ := okWide_slice Try.underlying69 (hval 0 69 v0 rfl rfl)
  have k0 := h0
  have lt0 : ∀ x ∈ p0, x.block < W.heap.size := by obtain ⟨m, hm⟩ := k0; exact DataW.trod_lt m _ _ _ hm
  obtain ⟨z0, l0, m0, w0, r0'⟩ := opened_pairs Try.underlying69 Try.underlying62 (by kernel_rfl) rfl rfl (by kernel_rfl) (by kernel_rfl) Try.underlying2 Try.underlying2 k0
  obtain ⟨a1x, a1y, rfl, rfl, rfl, w1x, w1y⟩ := opened_pair Try.underlying63 (by kernel_rfl) (by kernel_rfl) Try.underlying2 Try.underlying2 (hval 1 63 v1 rfl rfl) h1
  clear hA0 hval0
  refine (walk a0 len0 cap0 z0 a1x a1y W l0 m0 w0 r0' w1x w1y).mono fun e W' ⟨he, bel⟩ => ?_
  subst he
  exact ⟨_, rfl, _, _, _, [], _, [], hW', trodAll_mk1 (shut_bool Try.underlying4 _), (trodAll_cons_mk (Below.trod laidOut (by kernel_rfl) (of_decide_eq_true (by kernel_rfl)) k0 bel lt0) (trodAll_cons_mk (shut_pair Try.underlying63 (by kernel_rfl) (by kernel_rfl) Try.underlying2 Try.underlying2 w1x w1y) trodAll_mk0)), rfl, bel.frame _, fun h => by cases h⟩

theorem over : Rows.fnExactSteeringOfRow.holds Try.pinned (OpenSpec.ofChange Rows.fnExactSteeringOfSpec) :=
  OpenClaim.holds_of_wide 14 Try.f14 rfl rfl rfl rfl rfl rfl rfl ⟨rfl, rfl, rfl, rfl, rfl⟩ rfl rfl rfl rfl rfl (by kernel_rfl) Try.func14 (by kernel_rfl)
    (of_decide_eq_true (by kernel_rfl)) (by unfold Func.isWrapper; first | (rw [if_pos (by decide +kernel)]; kernel_rfl) | (rw [if_neg (by decide +kernel)]; exact ⟨rfl, rfl⟩))
    (fun os started H enc _ => lifted os started H enc)

theorem proved : Rows.FnExactSteeringOfSaid := over
#print axioms proved
end Go.Proofs.Ythnifmgjgdmmoaa.steeringOf
