/- The law on UnitMatrix answers true at every size. No condition. -/
import Derived.Test.YtabbfpjngbiohaaRows
import Derived.Test.YtabbfpjngbiohaaSlc
import Derived.Test.YtabbfpjngbiohaaSmall
import Derived.Test.YtabbfpjngbiohaaFloats
import Derived.Test.YtabbfpjngbiohaaRound
import Derived.Test.YtabbfpjngbiohaaValues
import Derived.Test.YtabbfpjngbiohaaConv
import Derived.Test.YtabbfpjngbiohaaFWalk
import Derived.Test.YtabbfpjngbiohaaFinWalk
import Derived.Test.YtabbfpjngbiohaaFloat2
import Derived.Test.YtabbfpjngbiohaaFloat3
import Derived.Test.YtabbfpjngbiohaaPhase
import Derived.Test.YtabbfpjngbiohaaSine
import Derived.Test.YtabbfpjngbiohaaPhasor
import Derived.Test.YtabbfpjngbiohaaListC
import Derived.Test.YtabbfpjngbiohaaListCC
import Derived.Test.YtabbfpjngbiohaaNest
import Derived.Test.YtabbfpjngbiohaaMat
import Derived.Test.YtabbfpjngbiohaaMatZ
import Derived.Test.YtabbfpjngbiohaaUnit
import Derived.WalkKit
import Derived.ProofKit
import Derived.OpenShut
import Derived.ShutString
import Derived.ChangeOld
import Derived.Below
import Derived.Lib.Hide
import Derived.BigQuiet
import Derived.Deep.QuietTactic
import Derived.WalkLawsBesides
import Derived.Outline
import Derived.Deep.LoopGhost
import Derived.Conc.Holds
namespace Go.Proofs.Ytabbfpjngbiohaa.unitMatrix
open Go.ChangeShapes Go.WideShapes Go.ChangeAt Go.RowKit
open Go.ChangeMaps (open_string shut_string)
set_option linter.unusedVariables false
theorem own : ownKnob Try.prog.godebug = none := by kernel_rfl
theorem laidOut : laidOutB Try.prog = true := by kernel_rfl
open Go Go.RowKit
open Go.Proofs.Ytabbfpjngbiohaa.slc Go.Proofs.Ytabbfpjngbiohaa.listC Go.Proofs.Ytabbfpjngbiohaa.listCC Go.Proofs.Ytabbfpjngbiohaa.nest Go.Proofs.Ytabbfpjngbiohaa.unit

/-- A function answers with a matrix of its own, and a bool. -/
def GivesM (F : Nat) (args : Array Value) (n m : Nat) (l : Nat → List (Nat × Nat)) (b : Bool) : Prop :=
  ∀ w : World, Calls Try.prog F args w fun e w' => ∃ A d a c, e = .returned (.tuple #[.agg #[.slice A n d], .bool b]) ∧ OwnN w' w.heap.size (.slice A n d) n m a c (fun i => ccell (l i)) ∧ w.grownBy w' none
theorem ul_len (n k : Nat) : (ul n k).length = n := by simp [ul]
theorem own_nil (w : World) (base : Nat) (hb : base ≤ w.heap.size) (l : Nat → List (Nat × Nat)) : OwnN w base (.slice none 0 0) 0 1 (fun _ => 0) (fun _ => 0) (fun i => ccell (l i)) :=
  ⟨⟨rfl, .inl ⟨rfl, rfl⟩⟩, fun k hk => absurd hk (by omega), fun j k hj => absurd hj (by omega), fun k hk => absurd hk (by omega)⟩
theorem both (x : Int) : ∃ n m l b, 1 ≤ m ∧ m ≤ 8 ∧ n ≤ 8 ∧ (∀ k, (l k).length = m ∨ n = 0) ∧ GivesM 57 #[.int .i64 x] n m l b ∧ GivesM 58 #[.int .i64 x] n m l b := by
  by_cases h : x < 1 ∨ 8 < x
  · refine ⟨0, 1, fun _ => [], false, Nat.le_refl _, by omega, by omega, fun k => .inr rfl, fun w => (unit_s_no x w h).mono ?_, fun w => (unit_i_no x w h).mono ?_⟩
    all_goals
      rintro e w' ⟨rfl, hg⟩
      exact ⟨none, 0, _, _, rfl, own_nil w' _ hg.size _, hg⟩
  · obtain ⟨n, rfl⟩ : ∃ n : Nat, x = (n : Int) := ⟨x.toNat, by omega⟩
    refine ⟨n, n, ul n, true, by omega, by omega, by omega, fun k => .inl (ul_len n k), fun w => (unit_s n w (by omega) (by omega)).mono fun e w' h => h, fun w => (unit_i n w (by omega) (by omega)).mono fun e w' h => h⟩
theorem same_refl (l : List (Nat × Nat)) : SameL l l := ⟨rfl, fun _ _ => ⟨rfl, rfl⟩⟩
theorem mk_small (m : Nat) (hm : m ≤ 8) : ∀ n, n ≤ 8 → mk 1 m n ≤ 1 + 8 * n
  | 0, _ => Nat.le_refl _
  | n + 1, h => by
    have := mk_small m hm n (by omega)
    show mk 1 m n + m ≤ _
    omega
theorem RdN.below {w w' : World} {B n m : Nat} {O : Option Addr} {a c : Nat → Nat} {f : Nat → Nat → Value} (h : RdN w B O n m a c f) (hb : Below B w w') : RdN w' B O n m a c f :=
  ⟨h.1.below hb, fun k hk => (h.2 k hk).below hb⟩
theorem below_trans {B B' : Nat} {a b c : World} (h : Below B a b) (k : Below B' b c) (hB : B ≤ B') : Below B a c :=
  ⟨k.os.trans h.os, k.tape.trans h.tape, k.output.trans h.output, Nat.le_trans h.size k.size, fun i hi => (k.block i (by omega)).trans (h.block i hi)⟩

theorem boxed (w : World) (v : Value) (t : TypeId) : (w.alloc (.cells #[v] t)).cell? ⟨w.heap.size, 0, none⟩ = some v := cell_of_row _ _ 0 _ _ _ (heap_alloc_new w _)
set_option maxHeartbeats 1600000 in
set_option maxRecDepth 100000 in
theorem walk (x : Int) (w : World) (w0 : (Lit.int .i64 x).wf = true) :
    Calls Try.prog 11 #[.int .i64 x] w fun e w' => e = .returned (.bool true) ∧ Below w.heap.size w w' := by
  obtain ⟨n, m, l, b, m1, m8, n8, hl0, hS, hI⟩ := both x
  have hl : ∀ k, k < n → (l k).length = m := fun k hk => (hl0 k).resolve_right (by omega)
  have HS := Lib.hid hS
  have HI := Lib.hid hI
  have hmk := mk_small m m8 n n8
  have n65 : n ≤ 65536 := by omega
  have mkb : mk 1 m n ≤ 1048576 := by omega
  have nb : n ≤ 9223372036854775807 := by omega
  have mb : m ≤ 9223372036854775807 := by omega
  have HEQ := Lib.hid (fun (O O' : Option Addr) (d d' B : Nat) (a c a' c' : Nat → Nat) (W : World) (hB : B ≤ W.heap.size) => eq_mat O O' n m d d' B a c a' c' l l W nb mb hB hl (fun k _ => same_refl _))
  clear hS hI hl hl0 w0 n8 m8 nb mb hmk
  go_enter Try.func11, Try.ntmps11
  go_wp2_with fail
  refine (HS.out _).mono ?_
  rintro e w1 ⟨A0, d0, a0, c0, rfl, ho0, hg0⟩
  have R0 := Lib.hid ho0.rd
  have HG0 := Lib.hid hg0
  clear ho0 hg0
  have hc0 := boxed w1 (.slice A0 n d0) 82
  go_wp2_with fail
  refine (HI.out _).mono ?_
  rintro e w2 ⟨A1, d1, a1, c1, rfl, ho1, hg1⟩
  have ga := (World.grownBy_alloc w1 (.cells #[.slice A0 n d0] 82) none).trans hg1
  have gb := World.grownBy_alloc w2 (.cells #[.slice A1 n d1] 82) none
  have hd0 := (hg1.trans gb).cell hc0 (by simp)
  have hd1 := boxed w2 (.slice A1 n d1) 82
  have lo1 : ∀ i, i < n → w1.heap.size + 1 ≤ a1 i ∧ a1 i < w2.heap.size := fun i hi => by
    have := own_base (ho1.rows i hi) (a1 i) rfl
    rwa [show (w1.alloc (.cells #[.slice A0 n d0] 82)).heap.size = w1.heap.size + 1 by simp] at this
  have HLO := Lib.hid lo1
  have HO1 := Lib.hid ho1
  have HGA := Lib.hid ga
  have HG2 := Lib.hid gb
  have h12 := ga.size
  clear hc0 hg1 ho1 ga gb lo1
  go_wp2_with fail
  refine (HEQ.out A1 A0 d1 d0 w2.heap.size a1 c1 a0 c0 _ HG2.out.size (HO1.out.rd.kept0 HG2.out (Nat.le_refl _)) ((R0.out.kept0 (HGA.out.trans HG2.out) (Nat.le_refl _)).mono h12)).mono ?_
  rintro e w3 ⟨rfl, g3⟩
  have he0 := g3.cell hd0 (by simp)
  have he1 := g3.cell hd1 (by simp)
  have HG3 := Lib.hid (HG2.out.trans g3)
  have HO3 := Lib.hid (HO1.out.kept0 (HG2.out.trans g3))
  clear hd0 hd1 g3
  go_wp2_with fail
  refine (mark_mat A1 n m d1 _ 1 a1 c1 _ w3 m1 n65 mkb HO3.out).mono ?_
  rintro e w4 ⟨rfl, ho4, on4⟩
  have h23 := HG3.out.size
  have hf0 := on4.cell he0 (fun i hi => by have := HLO.out i hi; show w1.heap.size ≠ a1 i; omega)
  have hf1 := on4.cell he1 (fun i hi => by have := HLO.out i hi; show w2.heap.size ≠ a1 i; omega)
  have HB4 := Lib.hid (on4.below (B := w1.heap.size) (by omega) (fun i hi => by have := HLO.out i hi; omega))
  have R4 := Lib.hid ho4.rd
  have H4 := Lib.hid (RdN.below (R0.out.kept0 (HGA.out.trans HG3.out) (Nat.le_refl _)) HB4.out)
  have h34 := on4.size
  clear he0 he1 ho4 on4
  go_wp2_with fail
  refine (held_mat A1 n m d1 w4.heap.size 1 a1 c1 w4 m1 n65 mkb (Nat.le_refl _) R4.out).mono ?_
  rintro e w5 ⟨rfl, g5⟩
  have hg0 := g5.cell hf0 (by simp)
  have hg1 := g5.cell hf1 (by simp)
  have HG5 := Lib.hid g5
  have h45 := g5.size
  clear hf0 hf1 g5
  go_wp2_with fail
  refine (HI.out _).mono ?_
  rintro e w6 ⟨A6, d6, a6, c6, rfl, ho6, g6⟩
  have gb6 := World.grownBy_alloc w6 (.cells #[.slice A6 n d6] 82) none
  have hh0 := (g6.trans gb6).cell hg0 (by simp)
  have hh1 := (g6.trans gb6).cell hg1 (by simp)
  have hh6 := boxed w6 (.slice A6 n d6) 82
  have R6 := Lib.hid (ho6.rd.kept0 gb6 (Nat.le_refl _))
  have h56 := g6.size
  have HG6 := Lib.hid (HG5.out.trans (g6.trans gb6))
  have h6b := gb6.size
  clear hg0 hg1 ho6 g6 gb6
  go_wp2_with fail
  refine (HEQ.out A6 A0 d6 d0 w6.heap.size a6 c6 a0 c0 _ h6b R6.out ((H4.out.kept0 HG6.out (by omega)).mono (by omega))).mono ?_
  rintro e w7 ⟨rfl, g7⟩
  have hi1 := g7.cell hh1 (by simp)
  have HG7 := Lib.hid (HG6.out.trans g7)
  have h47 := HG7.out.size
  clear hh0 hh1 hh6 g7
  go_wp2_with fail
  refine (held_mat A1 n m d1 w4.heap.size 1 a1 c1 w7 m1 n65 mkb h47 (R4.out.kept0 HG7.out (Nat.le_refl _))).mono ?_
  rintro e w8 ⟨rfl, g8⟩
  have HG8 := Lib.hid (HG7.out.trans g8)
  clear hi1 g8
  have h01 := HG0.out.size
  go_wp2_with fail
  go_ret
  exact ⟨rfl, below_trans (gb_below (HG0.out.trans (HGA.out.trans HG3.out))) (below_trans HB4.out (gb_below HG8.out) (by omega)) (by omega)⟩

set_option maxRecDepth 100000 in
theorem lifted (os : Os) (started : os.Started) (H : Type) (enc : TypeId × Value → H) :
    ReturnsInHanded {} Try.checked os 11 .any (Rows.fnExactUnitMatrixSpec.pre6 enc Try.prog Try.f11 Rows.fnExactUnitMatrixRow.domain false) (Rows.fnExactUnitMatrixSpec.post enc Try.prog Try.f11 false true false false) := by
  refine returnsInHanded_of_change (C := Try.checked) own started (by kernel_rfl) Try.func11
    (ChangeSpec.witness6 (enc := enc) (C := Try.checked) false ⟨#[], #[.int .i64 0], []⟩ 8 (by kernel_rfl) (by kernel_rfl) (by kernel_rfl) (by kernel_rfl)) ?_
  intro W base args ds gs before hval0 hW hcnd _
  have hval : ∀ (j : Nat) t v, Try.f11.params[j]? = some t → args[j]? = some v → Value.okWide Try.prog W .any base t v := hval0
  have hW' := hW
  obtain ⟨p, q, hA0, hV, rfl, hfz, hnd⟩ := hW
  have hA : DataW.TrodAll enc Try.prog W 0 (fun _ => true) true Try.f11.params.toList args.toList ds p := hA0
  rw [Try.params11] at hA hval
  obtain ⟨v0, vs0, d0, ds0, p0, q0, hargs, rfl, rfl, h0, r0⟩ := trodAll_cons hA
  obtain ⟨rfl, rfl, rfl⟩ := trodAll_nil r0
  obtain rfl : args = #[v0] := by cases args; simp_all
  obtain ⟨rfl, rfl⟩ := trodVars_none hV
  obtain ⟨a0, rfl, rfl, rfl, w0⟩ := open_int Try.underlying2 (hval 0 2 v0 rfl rfl) h0
  clear hA0 hval0
  refine (walk a0 W w0).mono fun e W' ⟨he, bel⟩ => ?_
  subst he
  exact ⟨_, rfl, _, _, _, [], _, [], hW', trodAll_mk1 (shut_bool Try.underlying4 _), (trodAll_cons_mk (shut_int Try.underlying2 w0) trodAll_mk0), rfl, bel.frame _, fun h => by cases h⟩

theorem leave_of_alone {P : Program} {m : Machine} {w : World} {t : Trace} (h : aloneAtReturn P m w t) : leavingAtReturn P m w t := by
  obtain ⟨⟨h1, h2⟩, h3, h4⟩ := h
  refine ⟨h3, ⟨fun g hg => ⟨0, ?_⟩, h2⟩, h4⟩
  unfold Machine.othersDone at h1
  rw [List.all_eq_true] at h1
  have h5 := h1 g hg
  show g.status = .finished
  revert h5
  cases g.status <;> simp

theorem over : Rows.fnExactUnitMatrixRow.holds Try.pinned (OpenSpec.ofChange Rows.fnExactUnitMatrixSpec) :=
  OpenClaim.holds_of_wide_leaving 11 Try.f11 rfl rfl rfl rfl rfl rfl rfl ⟨rfl, rfl, rfl, rfl, rfl⟩ rfl rfl rfl rfl rfl (by kernel_rfl) Try.func11 (by kernel_rfl)
    (of_decide_eq_true (by kernel_rfl)) (by unfold Func.isWrapper; first | (rw [if_pos (by decide +kernel)]; kernel_rfl) | (rw [if_neg (by decide +kernel)]; exact ⟨rfl, rfl⟩))
    (fun os started H enc _ => fun e => ReturnsInOpen.mono (fun _ _ _ x => leave_of_alone x) (fun _ x => x) (lifted os started H enc e))

theorem proved : Rows.FnExactUnitMatrixSaid := over
#print axioms proved
end Go.Proofs.Ytabbfpjngbiohaa.unitMatrix
