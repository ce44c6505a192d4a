/- The law on IsRuler answers true at every list. No condition. -/
import Derived.Test.YtjmgohlepglkoaaRows
import Derived.Test.YtjmgohlepglkoaaSlc
import Derived.Test.YtjmgohlepglkoaaSmall
import Derived.Test.YtjmgohlepglkoaaOpens
import Derived.Test.YtjmgohlepglkoaaListI
import Derived.Test.YtjmgohlepglkoaaMarks
import Derived.Test.YtjmgohlepglkoaaPut
import Derived.Test.YtjmgohlepglkoaaDiff
import Derived.Test.YtjmgohlepglkoaaHoles
import Derived.Test.YtjmgohlepglkoaaISet
import Derived.Test.YtjmgohlepglkoaaISize
import Derived.Test.YtjmgohlepglkoaaHoles2
import Derived.Test.YtjmgohlepglkoaaRuler
import Derived.WalkKit
import Derived.ProofKit
import Derived.OpenShut
import Derived.ShutString
import Derived.ChangeOld
import Derived.Below
import Derived.Lib.Hide
import Derived.BigQuiet
import Derived.Deep.QuietTactic
import Derived.WalkLawsBesides
import Derived.Outline
import Derived.Deep.LoopGhost
namespace Go.Proofs.Ytjmgohlepglkoaa.isRuler
open Go.ChangeShapes Go.WideShapes Go.ChangeAt Go.RowKit
open Go.ChangeMaps (open_string shut_string)
set_option linter.unusedVariables false
theorem own : ownKnob Try.prog.godebug = none := by kernel_rfl
theorem laidOut : laidOutB Try.prog = true := by kernel_rfl
open Go Go.RowKit
open Go.Proofs.Ytjmgohlepglkoaa.slc Go.Proofs.Ytjmgohlepglkoaa.small Go.Proofs.Ytjmgohlepglkoaa.opens Go.Proofs.Ytjmgohlepglkoaa.listI Go.Proofs.Ytjmgohlepglkoaa.ruler

/-- The cells of a list. -/
def cls (xs : List Int) (j : Nat) : Value := (ints xs).getD j undef

set_option maxHeartbeats 800000 in
set_option maxRecDepth 100000 in
theorem law (A : Option Addr) (c : Nat) (ps : List Int) (ok : Bool) (w : World) (hm : ps.length ≤ 9223372036854775807) (hr : Rd w w.heap.size A ps.length (cls ps))
    (hs : Rus 45 ps ok) (hi : Rus 46 ps ok) :
    Calls Try.prog 10 #[.slice A ps.length c] w fun e w' => e = .returned (.bool true) ∧ Below w.heap.size w w' := by
  have hp : Ints (cls ps) ps.length := Ints.of ps ps.length (Nat.le_refl _)
  by_cases hlen : ps.length ≤ 1048576
  · have hlen' : (ps.length : Int) ≤ 1048576 := by omega
    go_enter Try.func10, Try.ntmps10
    go_wp2_with fail
    refine (toI _ _ _ _ _ (by omega) hp hr).mono ?_
    rintro e w1 ⟨A1, c1, rfl, ho1, hg1⟩
    have R1 := Rd.of_lst ho1 (Nat.mul_one _).symm
    go_wp2_with fail
    refine (hs _ _ _ _ (own_le ho1) R1 (Nat.le_refl _)).mono ?_
    rintro e w2 ⟨rfl, hg2⟩
    have g2 := hg1.trans hg2
    go_wp2_with fail
    refine (toI _ _ _ _ _ (by omega) hp ((hr.kept0 g2 (Nat.le_refl _)).mono g2.size)).mono ?_
    rintro e w3 ⟨A3, c3, rfl, ho3, hg3⟩
    have R3 := Rd.of_lst ho3 (Nat.mul_one _).symm
    have g3 := g2.trans hg3
    go_wp2_with fail
    refine (hi _ _ _ _ (own_le ho3) R3 (Nat.le_refl _)).mono ?_
    rintro e w4 ⟨rfl, hg4⟩
    have g4 := g3.trans hg4
    go_wp2_with fail
    refine (toI _ _ _ _ _ (by omega) hp ((hr.kept0 g4 (Nat.le_refl _)).mono g4.size)).mono ?_
    rintro e w5 ⟨A5, c5, rfl, ho5, hg5⟩
    have R5 := Rd.of_lst ho5 (Nat.mul_one _).symm
    have h35 := hg4.trans hg5
    have R35 := (R3.kept0 h35 (Nat.le_refl _)).mono h35.size
    have g5 := g4.trans hg5
    go_wp2_with fail
    refine (eqI_true _ _ _ _ _ _ _ _ (by omega) hp R35 R5).mono ?_
    rintro e w6 ⟨rfl, hg6⟩
    go_wp2_with fail
    go_ret
    exact ⟨rfl, gb_below (g5.trans hg6)⟩
  · have hlen' : (1048576 : Int) < (ps.length : Int) := by omega
    go_enter Try.func10, Try.ntmps10
    go_wp2_with fail
    go_ret
    exact ⟨rfl, Below.refl _ _⟩

theorem walk (a0 : Option Addr) (len0 cap0 : Nat) (z0 : List Int) (w : World) (l0 : z0.length = len0) (m0 : len0 ≤ maxLen) (w0 : ∀ x ∈ z0, (Lit.int .i64 x).wf = true) (r0 : Rd w w.heap.size a0 len0 (fun j => .int .i64 (z0.getD j 0))) :
    Calls Try.prog 10 #[.slice a0 len0 cap0] w fun e w' => e = .returned (.bool true) ∧ Below w.heap.size w w' := by
  subst l0
  unfold maxLen at m0
  have r1 : Rd w w.heap.size a0 z0.length (cls z0) := r0.congr fun j hj => by rw [show cls z0 j = .int .i64 z0[j] from ints_getD z0 j hj]; simp [List.getD, hj]
  exact law a0 cap0 z0 _ w (by omega) r1 (ruspec_c z0) (ruimpl_c z0)

set_option maxRecDepth 100000 in
theorem lifted (os : Os) (started : os.Started) (H : Type) (enc : TypeId × Value → H) :
    ReturnsInHanded {} Try.checked os 10 .any (Rows.fnExactIsRulerSpec.pre6 enc Try.prog Try.f10 Rows.fnExactIsRulerRow.domain false) (Rows.fnExactIsRulerSpec.post enc Try.prog Try.f10 false true false false) := by
  refine returnsInHanded_of_change (C := Try.checked) own started (by kernel_rfl) Try.func10
    (ChangeSpec.witness6 (enc := enc) (C := Try.checked) false ⟨#[], #[.slice none 0 0], []⟩ 8 (by kernel_rfl) (by kernel_rfl) (by kernel_rfl) (by kernel_rfl)) ?_
  intro W base args ds gs before hval0 hW hcnd _
  have hval : ∀ (j : Nat) t v, Try.f10.params[j]? = some t → args[j]? = some v → Value.okWide Try.prog W .any base t v := hval0
  have hW' := hW
  obtain ⟨p, q, hA0, hV, rfl, hfz, hnd⟩ := hW
  have hA : DataW.TrodAll enc Try.prog W 0 (fun _ => true) true Try.f10.params.toList args.toList ds p := hA0
  rw [Try.params10] at hA hval
  obtain ⟨v0, vs0, d0, ds0, p0, q0, hargs, rfl, rfl, h0, r0⟩ := trodAll_cons hA
  obtain ⟨rfl, rfl, rfl⟩ := trodAll_nil r0
  obtain rfl : args = #[v0] := by cases args; simp_all
  obtain ⟨rfl, rfl⟩ := trodVars_none hV
  obtain ⟨a0, len0, cap0, rfl⟩ := okWide_slice Try.underlying45 (hval 0 45 v0 rfl rfl)
  have k0 := h0
  have lt0 : ∀ x ∈ p0, x.block < W.heap.size := by obtain ⟨m, hm⟩ := k0; exact DataW.trod_lt m _ _ _ hm
  obtain ⟨z0, l0, m0, w0, r0'⟩ := opened_ints Try.underlying45 Try.underlying2 (by kernel_rfl) k0
  clear hA0 hval0
  refine (walk a0 len0 cap0 z0 W l0 m0 w0 r0').mono fun e W' ⟨he, bel⟩ => ?_
  subst he
  exact ⟨_, rfl, _, _, _, [], _, [], hW', trodAll_mk1 (shut_bool Try.underlying4 _), (trodAll_cons_mk (Below.trod laidOut (by kernel_rfl) (of_decide_eq_true (by kernel_rfl)) k0 bel lt0) trodAll_mk0), rfl, bel.frame _, fun h => by cases h⟩

theorem over : Rows.fnExactIsRulerRow.holds Try.pinned (OpenSpec.ofChange Rows.fnExactIsRulerSpec) :=
  OpenClaim.holds_of_wide 10 Try.f10 rfl rfl rfl rfl rfl rfl rfl ⟨rfl, rfl, rfl, rfl, rfl⟩ rfl rfl rfl rfl rfl (by kernel_rfl) Try.func10 (by kernel_rfl)
    (of_decide_eq_true (by kernel_rfl)) (by unfold Func.isWrapper; first | (rw [if_pos (by decide +kernel)]; kernel_rfl) | (rw [if_neg (by decide +kernel)]; exact ⟨rfl, rfl⟩))
    (fun os started H enc _ => lifted os started H enc)

theorem proved : Rows.FnExactIsRulerSaid := over
#print axioms proved
end Go.Proofs.Ytjmgohlepglkoaa.isRuler
