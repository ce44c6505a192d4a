/- The law on DifferencesOf answers true at every list. No condition. -/
import Derived.Test.YtjmgohlepglkoaaRows
import Derived.Test.YtjmgohlepglkoaaSlc
import Derived.Test.YtjmgohlepglkoaaSmall
import Derived.Test.YtjmgohlepglkoaaOpens
import Derived.Test.YtjmgohlepglkoaaListI
import Derived.Test.YtjmgohlepglkoaaMarks
import Derived.Test.YtjmgohlepglkoaaPut
import Derived.Test.YtjmgohlepglkoaaDiff
import Derived.Test.YtjmgohlepglkoaaISet
import Derived.Test.YtjmgohlepglkoaaISize
import Derived.Test.YtjmgohlepglkoaaKeys
import Derived.Test.YtjmgohlepglkoaaDiffer
import Derived.WalkKit
import Derived.ProofKit
import Derived.OpenShut
import Derived.ShutString
import Derived.ChangeOld
import Derived.Below
import Derived.Lib.Hide
import Derived.BigQuiet
import Derived.Deep.QuietTactic
import Derived.WalkLawsBesides
import Derived.Outline
import Derived.Deep.LoopGhost
namespace Go.Proofs.Ytjmgohlepglkoaa.differencesOf
open Go.ChangeShapes Go.WideShapes Go.ChangeAt Go.RowKit
open Go.ChangeMaps (open_string shut_string)
set_option linter.unusedVariables false
theorem own : ownKnob Try.prog.godebug = none := by kernel_rfl
theorem laidOut : laidOutB Try.prog = true := by kernel_rfl
open Go Go.RowKit
open Go.Proofs.Ytjmgohlepglkoaa.slc Go.Proofs.Ytjmgohlepglkoaa.small Go.Proofs.Ytjmgohlepglkoaa.opens Go.Proofs.Ytjmgohlepglkoaa.listI Go.Proofs.Ytjmgohlepglkoaa.differ

/-- The cells of a list. -/
def cls (xs : List Int) (j : Nat) : Value := (ints xs).getD j undef
theorem cls_lst (xs : List Int) : lst (cls xs) xs.length = ints xs := by
  have h := lst_of (ints xs)
  rw [ints_len] at h
  exact h
def Gvl (F : Nat) (xs ys : List Int) (ok : Bool) : Prop :=
  ∀ (A : Option Addr) (c B : Nat) (w : World), xs.length ≤ c ∧ c ≤ maxLen → Rd w B A xs.length (cls xs) → B ≤ w.heap.size →
    Calls Try.prog F #[.slice A xs.length c] w fun e w' => ∃ A' c', e = .returned (.tuple #[.slice A' ys.length c', .bool ok]) ∧ w'.ownsRow w.heap.size 2 1 (.slice A' ys.length c') ys.length (lst (cls ys) ys.length) ∧ w.grownBy w' none
theorem Gvl.of {F : Nat} {xs ys : List Int} {ok : Bool} (h : Gvs F xs ys ok) : Gvl F xs ys ok := fun A c B w hc hr hB =>
  (h A c B w hc.1 hc.2 hr hB).mono fun e w' ⟨A', c', h1, h2, h3⟩ => ⟨A', c', h1, by rw [cls_lst]; exact h2, h3⟩

set_option maxHeartbeats 800000 in
set_option maxRecDepth 100000 in
theorem law (A : Option Addr) (c : Nat) (ps xs : List Int) (ok : Bool) (w : World) (hm : ps.length ≤ 9223372036854775807) (hl : xs.length ≤ 65536) (hr : Rd w w.heap.size A ps.length (cls ps))
    (hs : Gvl 40 ps xs ok) (hi : Gvl 41 ps xs ok) :
    Calls Try.prog 8 #[.slice A ps.length c] w fun e w' => e = .returned (.bool true) ∧ Below w.heap.size w w' := by
  have hp : Ints (cls ps) ps.length := Ints.of ps ps.length (Nat.le_refl _)
  have hx : Ints (cls xs) xs.length := Ints.of xs xs.length (Nat.le_refl _)
  by_cases hlen : ps.length ≤ 1048576
  · go_enter Try.func8, Try.ntmps8
    have hlen' : (ps.length : Int) ≤ 1048576 := by omega
    go_wp2_with fail
    refine (toI _ _ _ _ _ (by omega) hp hr).mono ?_
    rintro e w1 ⟨A1, c1, rfl, ho1, hg1⟩
    have R1 := Rd.of_lst ho1 (Nat.mul_one _).symm
    go_wp2_with fail
    refine (hs _ _ _ _ (own_le ho1) R1 (Nat.le_refl _)).mono ?_
    rintro e w2 ⟨A2, c2, rfl, ho2, hg2⟩
    have S2 := Rd.of_lst ho2 (Nat.mul_one _).symm
    have g2 := hg1.trans hg2
    go_wp2_with fail
    refine (toI _ _ _ _ _ (by omega) hp ((hr.kept0 g2 (Nat.le_refl _)).mono g2.size)).mono ?_
    rintro e w3 ⟨A3, c3, rfl, ho3, hg3⟩
    have R3 := Rd.of_lst ho3 (Nat.mul_one _).symm
    have g3 := g2.trans hg3
    go_wp2_with fail
    refine (hi _ _ _ _ (own_le ho3) R3 (Nat.le_refl _)).mono ?_
    rintro e w4 ⟨A4, c4, rfl, ho4, hg4⟩
    have R4 := Rd.of_lst ho4 (Nat.mul_one _).symm
    have g4 := g3.trans hg4
    have S4 := (S2.kept0 (hg3.trans hg4) (Nat.le_refl _)).mono (hg3.trans hg4).size
    go_wp2_with fail
    refine (eqI_true _ _ _ _ _ _ _ _ (by omega) hx R4 S4).mono ?_
    rintro e w5 ⟨rfl, hg5⟩
    have g5 := g4.trans hg5
    go_wp2_with fail
    refine (toI _ _ _ _ _ (by omega) hp ((hr.kept0 g5 (Nat.le_refl _)).mono g5.size)).mono ?_
    rintro e w6 ⟨A6, c6, rfl, ho6, hg6⟩
    have R6 := Rd.of_lst ho6 (Nat.mul_one _).symm
    have h36 := (hg4.trans hg5).trans hg6
    have R36 := (R3.kept0 h36 (Nat.le_refl _)).mono h36.size
    have g6 := g5.trans hg6
    go_wp2_with fail
    refine (eqI_true _ _ _ _ _ _ _ _ (by omega) hp R36 R6).mono ?_
    rintro e w7 ⟨rfl, hg7⟩
    have g7 := g6.trans hg7
    have ho37 := own_kept0 ho3 (h36.trans hg7)
    go_wp2_with fail
    refine (markI1 _ _ _ _ _ _ _ (by omega) ho37).mono ?_
    rintro e w8 ⟨rfl, ho8, hg8⟩
    have h47 := (hg5.trans hg6).trans hg7
    have ho47 := own_kept0 ho4 h47
    have b3 := own_base ho3
    have b4 := own_base ho4
    have hsz34 := hg4.size
    have hn34 : (Value.slice A4 xs.length c4).ownBlock ≠ A3.map Addr.block ∨ (Value.slice A4 xs.length c4).ownBlock = none := by
      cases h4 : (Value.slice A4 xs.length c4).ownBlock with
      | none => exact .inr rfl
      | some b =>
        refine .inl fun e => ?_
        rw [own_blk] at h4
        have x1 := (b4 b h4).1
        have x2 := (b3 b e.symm).2
        omega
    have ho48 := ho47.kept hg8 hn34.symm
    have R48 := Rd.of_lst ho48 (Nat.mul_one _).symm
    have S7 := S2.kept0 ((hg3.trans hg4).trans h47) (Nat.le_refl _)
    have hsz27 := ((hg3.trans hg4).trans h47).size
    have S8 := S7.kept hg8 hsz27 (far_of ho3 (Nat.le_refl _))
    have hsz28 := Nat.le_trans hsz27 hg8.size
    have g8 := gb_new g7 hg8 (base_of ho3 g2.size)
    go_wp2_with fail
    refine (eqI_true _ _ _ _ _ _ _ _ (by omega) hx R48 (S8.mono hsz28)).mono ?_
    rintro e w9 ⟨rfl, hg9⟩
    have g9 := g8.trans hg9
    have ho49 := own_kept0 ho48 hg9
    have S9 := S8.kept0 hg9 hsz28
    have hsz29 := Nat.le_trans hsz28 hg9.size
    go_wp2_with fail
    refine (markI1 _ _ _ _ _ _ _ (by omega) ho49).mono ?_
    rintro e w10 ⟨rfl, ho10, hg10⟩
    have S10 := S9.kept hg10 hsz29 (far_of ho4 (Nat.le_trans hg3.size (Nat.le_refl _)))
    have hsz210 := Nat.le_trans hsz29 hg10.size
    have M10 := Rd.of_lst ho10 (Nat.mul_one _).symm
    have g10 := gb_new g9 hg10 (base_of ho4 g3.size)
    go_wp2_with fail
    refine (heldI1 _ _ _ _ _ (by omega) M10).mono ?_
    rintro e w' ⟨rfl, rfl⟩
    have r10 := (hr.kept0 g10 (Nat.le_refl _)).mono g10.size
    go_wp2_with fail
    refine (toI _ _ _ _ _ (by omega) hp r10).mono ?_
    rintro e w11 ⟨A11, c11, rfl, ho11, hg11⟩
    have R11 := Rd.of_lst ho11 (Nat.mul_one _).symm
    go_wp2_with fail
    refine (hi _ _ _ _ (own_le ho11) R11 (Nat.le_refl _)).mono ?_
    rintro e w12 ⟨A12, c12, rfl, ho12, hg12⟩
    have R12 := Rd.of_lst ho12 (Nat.mul_one _).symm
    have S12 := (S10.kept0 (hg11.trans hg12) hsz210).mono (Nat.le_trans hsz210 (hg11.trans hg12).size)
    go_wp2_with fail
    refine (eqI_true _ _ _ _ _ _ _ _ (by omega) hx R12 S12).mono ?_
    rintro e w13 ⟨rfl, hg13⟩
    have M13 := M10.kept0 ((hg11.trans hg12).trans hg13) (Nat.le_refl _)
    go_wp2_with fail
    refine (heldI1 _ _ _ _ _ (by omega) M13).mono ?_
    rintro e w' ⟨rfl, rfl⟩
    go_wp2_with fail
    go_ret
    exact ⟨rfl, gb_below (g10.trans ((hg11.trans hg12).trans hg13))⟩
  · have hlen' : (1048576 : Int) < (ps.length : Int) := by omega
    go_enter Try.func8, Try.ntmps8
    go_wp2_with fail
    go_ret
    exact ⟨rfl, Below.refl _ _⟩

theorem walk (a0 : Option Addr) (len0 cap0 : Nat) (z0 : List Int) (w : World) (l0 : z0.length = len0) (m0 : len0 ≤ maxLen) (w0 : ∀ x ∈ z0, (Lit.int .i64 x).wf = true) (r0 : Rd w w.heap.size a0 len0 (fun j => .int .i64 (z0.getD j 0))) :
    Calls Try.prog 8 #[.slice a0 len0 cap0] w fun e w' => e = .returned (.bool true) ∧ Below w.heap.size w w' := by
  subst l0
  unfold maxLen at m0
  have r1 : Rd w w.heap.size a0 z0.length (cls z0) := r0.congr fun j hj => by rw [show cls z0 j = .int .i64 z0[j] from ints_getD z0 j hj]; simp [List.getD, hj]
  exact law a0 cap0 z0 _ _ w (by omega) (dR_le z0) r1 (Gvl.of (spec_c z0)) (Gvl.of (impl_c z0))

set_option maxRecDepth 100000 in
theorem lifted (os : Os) (started : os.Started) (H : Type) (enc : TypeId × Value → H) :
    ReturnsInHanded {} Try.checked os 8 .any (Rows.fnExactDifferencesOfSpec.pre6 enc Try.prog Try.f8 Rows.fnExactDifferencesOfRow.domain false) (Rows.fnExactDifferencesOfSpec.post enc Try.prog Try.f8 false true false false) := by
  refine returnsInHanded_of_change (C := Try.checked) own started (by kernel_rfl) Try.func8
    (ChangeSpec.witness6 (enc := enc) (C := Try.checked) false ⟨#[], #[.slice none 0 0], []⟩ 8 (by kernel_rfl) (by kernel_rfl) (by kernel_rfl) (by kernel_rfl)) ?_
  intro W base args ds gs before hval0 hW hcnd _
  have hval : ∀ (j : Nat) t v, Try.f8.params[j]? = some t → args[j]? = some v → Value.okWide Try.prog W .any base t v := hval0
  have hW' := hW
  obtain ⟨p, q, hA0, hV, rfl, hfz, hnd⟩ := hW
  have hA : DataW.TrodAll enc Try.prog W 0 (fun _ => true) true Try.f8.params.toList args.toList ds p := hA0
  rw [Try.params8] at hA hval
  obtain ⟨v0, vs0, d0, ds0, p0, q0, hargs, rfl, rfl, h0, r0⟩ := trodAll_cons hA
  obtain ⟨rfl, rfl, rfl⟩ := trodAll_nil r0
  obtain rfl : args = #[v0] := by cases args; simp_all
  obtain ⟨rfl, rfl⟩ := trodVars_none hV
  obtain ⟨a0, len0, cap0, rfl⟩ := okWide_slice Try.underlying45 (hval 0 45 v0 rfl rfl)
  have k0 := h0
  have lt0 : ∀ x ∈ p0, x.block < W.heap.size := by obtain ⟨m, hm⟩ := k0; exact DataW.trod_lt m _ _ _ hm
  obtain ⟨z0, l0, m0, w0, r0'⟩ := opened_ints Try.underlying45 Try.underlying2 (by kernel_rfl) k0
  clear hA0 hval0
  refine (walk a0 len0 cap0 z0 W l0 m0 w0 r0').mono fun e W' ⟨he, bel⟩ => ?_
  subst he
  exact ⟨_, rfl, _, _, _, [], _, [], hW', trodAll_mk1 (shut_bool Try.underlying4 _), (trodAll_cons_mk (Below.trod laidOut (by kernel_rfl) (of_decide_eq_true (by kernel_rfl)) k0 bel lt0) trodAll_mk0), rfl, bel.frame _, fun h => by cases h⟩

theorem over : Rows.fnExactDifferencesOfRow.holds Try.pinned (OpenSpec.ofChange Rows.fnExactDifferencesOfSpec) :=
  OpenClaim.holds_of_wide 8 Try.f8 rfl rfl rfl rfl rfl rfl rfl ⟨rfl, rfl, rfl, rfl, rfl⟩ rfl rfl rfl rfl rfl (by kernel_rfl) Try.func8 (by kernel_rfl)
    (of_decide_eq_true (by kernel_rfl)) (by unfold Func.isWrapper; first | (rw [if_pos (by decide +kernel)]; kernel_rfl) | (rw [if_neg (by decide +kernel)]; exact ⟨rfl, rfl⟩))
    (fun os started H enc _ => lifted os started H enc)

theorem proved : Rows.FnExactDifferencesOfSaid := over
#print axioms proved
end Go.Proofs.Ytjmgohlepglkoaa.differencesOf
