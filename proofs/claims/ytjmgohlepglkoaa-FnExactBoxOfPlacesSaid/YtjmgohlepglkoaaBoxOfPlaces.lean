/- The law on BoxOfPlaces answers true at every list of places. No condition. -/
import Derived.Test.YtjmgohlepglkoaaRows
import Derived.Test.YtjmgohlepglkoaaSlc
import Derived.Test.YtjmgohlepglkoaaSmall
import Derived.Test.YtjmgohlepglkoaaOpens
import Derived.Test.YtjmgohlepglkoaaPlaces
import Derived.Test.YtjmgohlepglkoaaPlaceSet
import Derived.Test.YtjmgohlepglkoaaListP
import Derived.Test.YtjmgohlepglkoaaBox
import Derived.Test.YtjmgohlepglkoaaBox2
import Derived.Test.YtjmgohlepglkoaaBox3
import Derived.WalkKit
import Derived.ProofKit
import Derived.OpenShut
import Derived.ShutString
import Derived.ChangeOld
import Derived.Below
import Derived.Lib.Hide
import Derived.BigQuiet
import Derived.Deep.QuietTactic
import Derived.WalkLawsBesides
import Derived.Outline
import Derived.Deep.LoopGhost
import Derived.Deep.QuietTactic
import Derived.BigQuiet
import Derived.Deep.RegionHeld3
namespace Go.Proofs.Ytjmgohlepglkoaa.boxOfPlaces
open Go.ChangeShapes Go.WideShapes Go.ChangeAt Go.RowKit
open Go.ChangeMaps (open_string shut_string)
set_option linter.unusedVariables false
theorem own : ownKnob Try.prog.godebug = none := by kernel_rfl
theorem laidOut : laidOutB Try.prog = true := by kernel_rfl
open Go Go.RowKit
open Go.Proofs.Ytjmgohlepglkoaa.slc Go.Proofs.Ytjmgohlepglkoaa.small Go.Proofs.Ytjmgohlepglkoaa.opens Go.Proofs.Ytjmgohlepglkoaa.places Go.Proofs.Ytjmgohlepglkoaa.placeSet Go.Proofs.Ytjmgohlepglkoaa.listP Go.Proofs.Ytjmgohlepglkoaa.box Go.Proofs.Ytjmgohlepglkoaa.box2 Go.Proofs.Ytjmgohlepglkoaa.box3

/-- What is returned. -/
def bxT (ps : List (Int × Int)) : (Int × Int) × (Int × Int) × Bool := if vp ps = true then ((lx ps ps.length, ly ps ps.length), (hx ps ps.length, hy ps ps.length), true) else ((0, 0), (0, 0), false)
def Boxed (F : Nat) (ps : List (Int × Int)) (R : (Int × Int) × (Int × Int) × Bool) : Prop :=
  ∀ (A : Option Addr) (c B : Nat) (w : World), ps.length ≤ 9223372036854775807 → Rd w B A (ps.length * 2) (pcell ps) → B ≤ w.heap.size →
    Calls Try.prog F #[.slice A ps.length c] w fun e w' => e = .returned (.tuple #[.agg #[.int .i64 R.1.1, .int .i64 R.1.2], .agg #[.int .i64 R.2.1.1, .int .i64 R.2.1.2], .bool R.2.2]) ∧ w.grownBy w' none

set_option maxHeartbeats 2000000 in
set_option maxRecDepth 100000 in
theorem spec_b (ps : List (Int × Int)) : Boxed 37 ps (bxT ps) := by
  intro A c B w hm hr hB
  unfold bxT
  cases hv : vp ps
  · rw [if_neg (by simp)]
    have k2 : (World.alloc w (.cells #[.int .i64 0, .int .i64 0] 58)).heap.size = w.heap.size + 1 := by simp
    have hb2 := (Bx.new w 0 0).keep (World.grownBy_alloc _ (.cells #[.int .i64 0, .int .i64 0] 58) none) (by simp)
    have hb3 := Bx.new (w.alloc (.cells #[.int .i64 0, .int .i64 0] 58)) 0 0
    rw [k2] at hb3
    have hg0 := (World.grownBy_alloc w (.cells #[.int .i64 0, .int .i64 0] 58) none).trans (World.grownBy_alloc _ (.cells #[.int .i64 0, .int .i64 0] 58) none)
    have hC := is_spec A c B ps _ hm (hr.kept0 hg0 hB) (Nat.le_trans hB hg0.size)
    rw [hv] at hC
    have HC := Lib.hid hC
    have HB2 := Lib.hid hb2
    have HB3 := Lib.hid hb3
    clear hC hb2 hb3
    go_enter Try.func37, Try.ntmps37
    go_wp2_with fail
    refine HC.out.mono ?_
    rintro e w1 ⟨rfl, hg1⟩
    have b2 := HB2.out.keep hg1 (by simp)
    have b3 := HB3.out.keep hg1 (by simp)
    have hg := hg0.trans hg1
    obtain ⟨u0, u1, u2, u3⟩ := b2.facts
    obtain ⟨v0, v1, v2, v3⟩ := b3.facts
    obtain ⟨d2, gd2⟩ := b2.put 0 0
    have b3' := b3.keep gd2 (by simp)
    obtain ⟨x0, x1, x2, x3⟩ := b3'.facts
    obtain ⟨d3, gd3⟩ := b3'.put 0 0
    obtain ⟨n0, n1, _, _⟩ := (d2.keep gd3 (by simp)).facts
    obtain ⟨o0, o1, _, _⟩ := d3.facts
    have gfin := gb_new (gb_new hg gd2 (by intro g e; injection e with e; omega)) gd3 (by intro g e; injection e with e; omega)
    have N0 := Lib.hid n0
    have N1 := Lib.hid n1
    have O0 := Lib.hid o0
    have O1 := Lib.hid o1
    have GF := Lib.hid gfin
    clear d2 gd2 b3' d3 gd3 n0 n1 o0 o1 gfin b2 b3 HB2 HB3 HC hg1 hg
    go_wp2
    have n0 := N0.out
    have n1 := N1.out
    have o0 := O0.out
    have o1 := O1.out
    exact bodyPost_ret (v := .tuple #[.agg #[.int .i64 0, .int .i64 0], .agg #[.int .i64 0, .int .i64 0], .bool false]) (by simp [results, Try.results37, go_sem, n0, n1, o0, o1]) rfl ⟨rfl, GF.out⟩
  · rw [if_pos rfl]
    have h1 := (vp_yes hv).1
    obtain ⟨ad, e, _, _⟩ := hr (by omega)
    subst e
    exact box_spec ad c B ps w hm hr hB hv
set_option maxHeartbeats 2000000 in
set_option maxRecDepth 100000 in
theorem impl_b (ps : List (Int × Int)) : Boxed 38 ps (bxT ps) := by
  intro A c B w hm hr hB
  unfold bxT
  cases hv : vp ps
  · rw [if_neg (by simp)]
    have k2 : (World.alloc w (.cells #[.int .i64 0, .int .i64 0] 58)).heap.size = w.heap.size + 1 := by simp
    have hb2 := (Bx.new w 0 0).keep (World.grownBy_alloc _ (.cells #[.int .i64 0, .int .i64 0] 58) none) (by simp)
    have hb3 := Bx.new (w.alloc (.cells #[.int .i64 0, .int .i64 0] 58)) 0 0
    rw [k2] at hb3
    have hg0 := (World.grownBy_alloc w (.cells #[.int .i64 0, .int .i64 0] 58) none).trans (World.grownBy_alloc _ (.cells #[.int .i64 0, .int .i64 0] 58) none)
    have hC := is_impl A c B ps _ hm (hr.kept0 hg0 hB) (Nat.le_trans hB hg0.size)
    rw [hv] at hC
    have HC := Lib.hid hC
    have HB2 := Lib.hid hb2
    have HB3 := Lib.hid hb3
    clear hC hb2 hb3
    go_enter Try.func38, Try.ntmps38
    go_wp2_with fail
    refine HC.out.mono ?_
    rintro e w1 ⟨rfl, hg1⟩
    have b2 := HB2.out.keep hg1 (by simp)
    have b3 := HB3.out.keep hg1 (by simp)
    have hg := hg0.trans hg1
    obtain ⟨u0, u1, u2, u3⟩ := b2.facts
    obtain ⟨v0, v1, v2, v3⟩ := b3.facts
    obtain ⟨d2, gd2⟩ := b2.put 0 0
    have b3' := b3.keep gd2 (by simp)
    obtain ⟨x0, x1, x2, x3⟩ := b3'.facts
    obtain ⟨d3, gd3⟩ := b3'.put 0 0
    obtain ⟨n0, n1, _, _⟩ := (d2.keep gd3 (by simp)).facts
    obtain ⟨o0, o1, _, _⟩ := d3.facts
    have gfin := gb_new (gb_new hg gd2 (by intro g e; injection e with e; omega)) gd3 (by intro g e; injection e with e; omega)
    have N0 := Lib.hid n0
    have N1 := Lib.hid n1
    have O0 := Lib.hid o0
    have O1 := Lib.hid o1
    have GF := Lib.hid gfin
    clear d2 gd2 b3' d3 gd3 n0 n1 o0 o1 gfin b2 b3 HB2 HB3 HC hg1 hg
    go_wp2
    have n0 := N0.out
    have n1 := N1.out
    have o0 := O0.out
    have o1 := O1.out
    exact bodyPost_ret (v := .tuple #[.agg #[.int .i64 0, .int .i64 0], .agg #[.int .i64 0, .int .i64 0], .bool false]) (by simp [results, Try.results38, go_sem, n0, n1, o0, o1]) rfl ⟨rfl, GF.out⟩
  · rw [if_pos rfl]
    have h1 := (vp_yes hv).1
    obtain ⟨ad, e, _, _⟩ := hr (by omega)
    subst e
    exact box_impl ad c B ps w hm hr hB hv

set_option maxHeartbeats 2000000 in
set_option maxRecDepth 100000 in
theorem law (A : Option Addr) (c : Nat) (ps : List (Int × Int)) (p q r s : Int) (ok : Bool) (w : World) (hm : ps.length ≤ 9223372036854775807) (hr : Rd w w.heap.size A (ps.length * 2) (pcell ps))
    (hs : Boxed 37 ps ((p, q), (r, s), ok)) (hi : Boxed 38 ps ((p, q), (r, s), ok)) :
    Calls Try.prog 7 #[.slice A ps.length c] w fun e w' => e = .returned (.bool true) ∧ Below w.heap.size w w' := by
  have hints := pcell_ints ps (ps.length * 2)
  by_cases hl : ps.length ≤ 1048576
  · have HS := Lib.hid hs
    have HI := Lib.hid hi
    have HR := Lib.hid (fun (w' : World) (h : w.grownBy w' none) => (hr.kept0 h (Nat.le_refl _)).mono h.size)
    clear hs hi
    go_enter Try.func7, Try.ntmps7
    go_wp2_with fail
    refine (szP _ _ _ _ hl).mono ?_
    rintro e w' ⟨rfl, rfl⟩
    go_wp2_with fail
    refine (toP _ _ _ _ _ hl hints hr).mono ?_
    rintro e w1 ⟨A1, c1, rfl, ho1, hg1⟩
    have R1 := Rd.of_lst ho1 rfl
    go_wp2_with fail
    refine (HS.out _ _ _ _ hm R1 (Nat.le_refl _)).mono ?_
    rintro e w2 ⟨rfl, hg2⟩
    have g2 := hg1.trans hg2
    have gal := (World.grownBy_alloc w2 (.cells #[.int .i64 p, .int .i64 q] 58) none).trans (World.grownBy_alloc _ (.cells #[.int .i64 r, .int .i64 s] 58) none)
    have g3 := g2.trans gal
    go_wp2_with fail
    refine (toP _ _ _ _ _ hl hints (HR.out _ g3)).mono ?_
    rintro e w4 ⟨A4, c4, rfl, ho4, hg4⟩
    have R4 := Rd.of_lst ho4 rfl
    have g4 := g3.trans hg4
    go_wp2_with fail
    refine (HI.out _ _ _ _ hm R4 (Nat.le_refl _)).mono ?_
    rintro e w5 ⟨rfl, hg5⟩
    have gal5 := (World.grownBy_alloc w5 (.cells #[.int .i64 p, .int .i64 q] 58) none).trans (World.grownBy_alloc _ (.cells #[.int .i64 r, .int .i64 s] 58) none)
    have h5 := (hg4.trans hg5).trans gal5
    obtain ⟨x0, x1, x2, x3⟩ := boxed4 h5
    obtain ⟨y0, y1, y2, y3⟩ := boxed4 (World.grownBy.refl ((w5.alloc (.cells #[.int .i64 p, .int .i64 q] 58)).alloc (.cells #[.int .i64 r, .int .i64 s] 58)) none)
    go_wp2_with fail
    refine (eqPl_true _ _ _).mono ?_
    rintro e w6 ⟨rfl, hg6⟩
    obtain ⟨_, _, x2', x3'⟩ := boxed4 (h5.trans hg6)
    obtain ⟨_, _, y2', y3'⟩ := boxed4 hg6
    clear x0 x1 x2 x3 y0 y1 y2 y3
    go_wp2_with fail
    refine (eqPl_true _ _ _).mono ?_
    rintro e w7 ⟨rfl, hg7⟩
    have h47 := (((hg5.trans gal5).trans hg6).trans hg7)
    have g7 := g4.trans h47
    clear x2' x3' y2' y3'
    go_wp2_with fail
    refine (toP _ _ _ _ _ hl hints (HR.out _ g7)).mono ?_
    rintro e w8 ⟨A8, c8, rfl, ho8, hg8⟩
    have R8 := Rd.of_lst ho8 rfl
    have h48 := h47.trans hg8
    go_wp2_with fail
    refine (eqP_true _ _ _ _ _ _ _ _ hm (Nat.le_refl _) hints ((R4.kept0 h48 (Nat.le_refl _)).mono h48.size) R8).mono ?_
    rintro e w9 ⟨rfl, hg9⟩
    go_wp2_with fail
    go_ret
    exact ⟨rfl, gb_below ((g7.trans hg8).trans hg9)⟩
  · go_enter Try.func7, Try.ntmps7
    go_wp2_with fail
    refine (szP_no _ _ _ _ (by omega) hm).mono ?_
    rintro e w' ⟨rfl, rfl⟩
    go_wp2_with fail
    go_ret
    exact ⟨rfl, Below.refl _ _⟩

theorem walk (a0 : Option Addr) (len0 cap0 : Nat) (z0 : List (Int × Int)) (w : World) (l0 : z0.length = len0) (m0 : len0 ≤ maxLen) (w0 : ∀ x ∈ z0, (Lit.int .i64 x.1).wf = true ∧ (Lit.int .i64 x.2).wf = true) (r0 : Rd w w.heap.size a0 (len0 * 2) (pcell z0)) :
    Calls Try.prog 7 #[.slice a0 len0 cap0] w fun e w' => e = .returned (.bool true) ∧ Below w.heap.size w w' := by
  subst l0
  unfold maxLen at m0
  exact law a0 cap0 z0 _ _ _ _ _ w (by omega) r0 (spec_b z0) (impl_b z0)

set_option maxRecDepth 100000 in
theorem lifted (os : Os) (started : os.Started) (H : Type) (enc : TypeId × Value → H) :
    ReturnsInHanded {} Try.checked os 7 .any (Rows.fnExactBoxOfPlacesSpec.pre6 enc Try.prog Try.f7 Rows.fnExactBoxOfPlacesRow.domain false) (Rows.fnExactBoxOfPlacesSpec.post enc Try.prog Try.f7 false true false false) := by
  refine returnsInHanded_of_change (C := Try.checked) own started (by kernel_rfl) Try.func7
    (ChangeSpec.witness6 (enc := enc) (C := Try.checked) false ⟨#[], #[.slice none 0 0], []⟩ 8 (by kernel_rfl) (by kernel_rfl) (by kernel_rfl) (by kernel_rfl)) ?_
  intro W base args ds gs before hval0 hW hcnd _
  have hval : ∀ (j : Nat) t v, Try.f7.params[j]? = some t → args[j]? = some v → Value.okWide Try.prog W .any base t v := hval0
  have hW' := hW
  obtain ⟨p, q, hA0, hV, rfl, hfz, hnd⟩ := hW
  have hA : DataW.TrodAll enc Try.prog W 0 (fun _ => true) true Try.f7.params.toList args.toList ds p := hA0
  rw [Try.params7] at hA hval
  obtain ⟨v0, vs0, d0, ds0, p0, q0, hargs, rfl, rfl, h0, r0⟩ := trodAll_cons hA
  obtain ⟨rfl, rfl, rfl⟩ := trodAll_nil r0
  obtain rfl : args = #[v0] := by cases args; simp_all
  obtain ⟨rfl, rfl⟩ := trodVars_none hV
  obtain ⟨a0, len0, cap0, rfl⟩ := okWide_slice Try.underlying28 (hval 0 28 v0 rfl rfl)
  have k0 := h0
  have lt0 : ∀ x ∈ p0, x.block < W.heap.size := by obtain ⟨m, hm⟩ := k0; exact DataW.trod_lt m _ _ _ hm
  obtain ⟨z0, l0, m0, w0, r0'⟩ := opened_pairs Try.underlying28 Try.underlying82 (by kernel_rfl) rfl rfl (by kernel_rfl) (by kernel_rfl) Try.underlying2 Try.underlying2 k0
  clear hA0 hval0
  refine (walk a0 len0 cap0 z0 W l0 m0 w0 r0').mono fun e W' ⟨he, bel⟩ => ?_
  subst he
  exact ⟨_, rfl, _, _, _, [], _, [], hW', trodAll_mk1 (shut_bool Try.underlying4 _), (trodAll_cons_mk (Below.trod laidOut (by kernel_rfl) (of_decide_eq_true (by kernel_rfl)) k0 bel lt0) trodAll_mk0), rfl, bel.frame _, fun h => by cases h⟩

theorem over : Rows.fnExactBoxOfPlacesRow.holds Try.pinned (OpenSpec.ofChange Rows.fnExactBoxOfPlacesSpec) :=
  OpenClaim.holds_of_wide 7 Try.f7 rfl rfl rfl rfl rfl rfl rfl ⟨rfl, rfl, rfl, rfl, rfl⟩ rfl rfl rfl rfl rfl (by kernel_rfl) Try.func7 (by kernel_rfl)
    (of_decide_eq_true (by kernel_rfl)) (by unfold Func.isWrapper; first | (rw [if_pos (by decide +kernel)]; kernel_rfl) | (rw [if_neg (by decide +kernel)]; exact ⟨rfl, rfl⟩))
    (fun os started H enc _ => lifted os started H enc)

theorem proved : Rows.FnExactBoxOfPlacesSaid := over
#print axioms proved
end Go.Proofs.Ytjmgohlepglkoaa.boxOfPlaces
