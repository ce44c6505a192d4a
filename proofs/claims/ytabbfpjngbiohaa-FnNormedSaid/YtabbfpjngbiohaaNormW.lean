/- Normed weights, by the program. -/
import Derived.Test.YtabbfpjngbiohaaRows
import Derived.Test.YtabbfpjngbiohaaSlc
import Derived.Test.YtabbfpjngbiohaaSmall
import Derived.Test.YtabbfpjngbiohaaR8
import Derived.Test.YtabbfpjngbiohaaSrc
import Derived.Test.YtabbfpjngbiohaaFloats
import Derived.Test.YtabbfpjngbiohaaRound
import Derived.Test.YtabbfpjngbiohaaValues
import Derived.Test.YtabbfpjngbiohaaConv
import Derived.Test.YtabbfpjngbiohaaFWalk
import Derived.Test.YtabbfpjngbiohaaFinWalk
import Derived.Test.YtabbfpjngbiohaaFloat2
import Derived.Test.YtabbfpjngbiohaaFloat3
import Derived.Test.YtabbfpjngbiohaaPhase
import Derived.Test.YtabbfpjngbiohaaSine
import Derived.Test.YtabbfpjngbiohaaPhasor
import Derived.Test.YtabbfpjngbiohaaListC
import Derived.Test.YtabbfpjngbiohaaSteerNum
import Derived.Test.YtabbfpjngbiohaaSineIn
import Derived.Test.YtabbfpjngbiohaaPolyNum
import Derived.Test.YtabbfpjngbiohaaPolyW
import Derived.Test.YtabbfpjngbiohaaPoly1
import Derived.Test.YtabbfpjngbiohaaListCC
import Derived.Test.YtabbfpjngbiohaaPoly2
import Derived.Test.YtabbfpjngbiohaaGPoly
import Derived.Test.YtabbfpjngbiohaaGNum
import Derived.Test.YtabbfpjngbiohaaSrcW
import Derived.Test.YtabbfpjngbiohaaRq
import Derived.Test.YtabbfpjngbiohaaRoot
import Derived.Test.YtabbfpjngbiohaaPowW
import Derived.Test.YtabbfpjngbiohaaRootN
import Derived.Test.YtabbfpjngbiohaaQuoN
import Derived.Test.YtabbfpjngbiohaaFine
import Derived.Test.YtabbfpjngbiohaaFineN
import Derived.Test.YtabbfpjngbiohaaNormQ
import Derived.Test.YtabbfpjngbiohaaNormNum
import Derived.Test.YtabbfpjngbiohaaNormSum
import Derived.Test.YtabbfpjngbiohaaNormP
import Derived.Test.YtabbfpjngbiohaaFinBoth
import Derived.WalkKit
import Derived.ProofKit
import Derived.OpenShut
import Derived.ShutString
import Derived.ChangeOld
import Derived.Below
import Derived.Lib.Hide
import Derived.BigQuiet
import Derived.Deep.QuietTactic
import Derived.WalkLawsBesides
import Derived.Outline
import Derived.Deep.LoopGhost
import Derived.Deep.QuietTactic
import Derived.BigQuiet
import Derived.Deep.RegionHeld3
import Derived.StillTailTactics
import Derived.Laws.ComplexArith
namespace Go.Proofs.Ytabbfpjngbiohaa.normW
open Go.ChangeShapes Go.WideShapes Go.ChangeAt Go.RowKit
open Go.ChangeMaps (open_string shut_string)
set_option linter.unusedVariables false
open Go Ieee Go.RowKit
open Go.Proofs.Ytabbfpjngbiohaa.slc Go.Proofs.Ytabbfpjngbiohaa.small Go.Proofs.Ytabbfpjngbiohaa.floats Go.Proofs.Ytabbfpjngbiohaa.round Go.Proofs.Ytabbfpjngbiohaa.values Go.Proofs.Ytabbfpjngbiohaa.conv Go.Proofs.Ytabbfpjngbiohaa.fWalk Go.Proofs.Ytabbfpjngbiohaa.float2 Go.Proofs.Ytabbfpjngbiohaa.float3 Go.Proofs.Ytabbfpjngbiohaa.phase Go.Proofs.Ytabbfpjngbiohaa.sine Go.Proofs.Ytabbfpjngbiohaa.phasor Go.Proofs.Ytabbfpjngbiohaa.listC Go.Proofs.Ytabbfpjngbiohaa.sineIn Go.Proofs.Ytabbfpjngbiohaa.polyNum Go.Proofs.Ytabbfpjngbiohaa.polyW Go.Proofs.Ytabbfpjngbiohaa.poly1 Go.Proofs.Ytabbfpjngbiohaa.gPoly Go.Proofs.Ytabbfpjngbiohaa.gNum Go.Proofs.Ytabbfpjngbiohaa.rq Go.Proofs.Ytabbfpjngbiohaa.powW Go.Proofs.Ytabbfpjngbiohaa.rootN Go.Proofs.Ytabbfpjngbiohaa.quoN Go.Proofs.Ytabbfpjngbiohaa.fine Go.Proofs.Ytabbfpjngbiohaa.fineN Go.Proofs.Ytabbfpjngbiohaa.normQ Go.Proofs.Ytabbfpjngbiohaa.normNum Go.Proofs.Ytabbfpjngbiohaa.normSum Go.Proofs.Ytabbfpjngbiohaa.normP

theorem getD_map (l : List G) (k : Nat) (h : k < l.length) : (l.map fW).getD k (0, 0) = fW (l.getD k (0, 0)) ∧ l.getD k (0, 0) ∈ l := by
  have e : l.getD k (0, 0) = l[k] := by rw [List.getD_eq_getElem?_getD, List.getElem?_eq_getElem h]; rfl
  rw [e]
  refine ⟨?_, List.getElem_mem h⟩
  rw [List.getD_eq_getElem?_getD, List.getElem?_eq_getElem (by simpa using h)]
  simp
theorem psOk_f (l : List G) (hl : ∀ g ∈ l, InG g) (hn : l.length ≤ 64) : PsOk (l.map fW) := by
  intro k hk
  have hk' : k < l.length := by simpa using hk
  obtain ⟨e1, e2⟩ := getD_map l k hk'
  rw [take_snoc _ _ hk, e1, ← List.map_take]
  refine ⟨(pow_16 (hl _ e2)).1, ?_⟩
  exact psum_step (l.take k) _ (by simp; omega) (fun y hy => hl y (List.mem_of_mem_take hy)) (hl _ e2)
theorem psOk_of (l : List (Nat × Nat)) (h : ∀ x ∈ l, Cb x 1) (hn : l.length ≤ 8) : PsOk l := by
  intro k hk
  have e : l.getD k (0, 0) = l[k] := by rw [List.getD_eq_getElem?_getD, List.getElem?_eq_getElem hk]; rfl
  have hm := h _ (List.getElem_mem hk)
  rw [← e] at hm
  obtain ⟨a, _⟩ := psum_near (l.take k) (fun x hx => h x (List.mem_of_mem_take hx)) (by simp; omega)
  have hlen : (l.take k).length = k := by simp; omega
  rw [hlen] at a
  obtain ⟨b1, b2, _, _⟩ := add_pow a hm (by omega) (by omega)
  rw [take_snoc _ _ hk, psum_snoc]
  exact ⟨b1, b2⟩
theorem wf32 {x : Nat} (h : x < 2 ^ 32) : (Lit.float .f32 x).wf = true := by
  simp [Lit.wf, h]
theorem quo_c {x y r : Nat} (h : floatBits .quo .f32 x y = some r) (w : World) (t : TypeId) : (binOp .quo t (.float .f32 x) (.float .f32 y)).run Try.prog w = .ok (.float .f32 r) w := run32 h rfl w t
/-- 1 by the root of the power, by the program. -/
theorem norm_by (A : Option Addr) (c B p y : Nat) (b : Bool) (l : List (Nat × Nat)) (w : World) (h1 : 1 ≤ l.length) (hn : l.length ≤ 16) (hok : PsOk l) (hr : Rd w B A l.length (ccell l)) (hB : B ≤ w.heap.size) (hw : floatToFloatBits .f64 (psum l) .f32 = some p)
    {s : Nat} (e1 : floatToFloatBits .f32 p .f64 = some (wd p)) (e2 : double.sqrt (wd p) = some s) (e3 : floatToFloatBits .f64 s .f32 = some (rtW p)) (e4 : floatBits .quo .f32 1065353216 (rtW p) = some y) (hy : y < 2 ^ 32) (hb : b = true ↔ FinW single y) (hm : b = true → ∀ j, j < l.length → ScOk y (l.getD j (0, 0))) :
    Calls Try.prog 18 #[.slice A l.length c] w fun e w' => (b = false ∧ e = .returned (.tuple #[.slice none 0 0, .bool false]) ∧ w.grownBy w' none) ∨ (b = true ∧ ∃ A' c' k, e = .returned (.tuple #[.slice A' l.length c', .bool true]) ∧ w.heap.size ≤ k ∧ w'.ownsRow k 36 1 (.slice A' l.length c') l.length (lst (ccell (l.map (sc y))) l.length) ∧ w.grownBy w' none) := by
  have HP := Lib.hid (powers_impl A c B p l w (by omega) hok hr hB hw)
  have HR := Lib.hid (root_impl e1 e2 e3)
  have hq := quo_c e4
  have hfin := fun w => finBoth.impl_any y w (wf32 hy) b hb
  clear e1 e2 e3 e4 hw hok hb hy
  go_enter Try.func18, Try.ntmps18
  go_wp2_with fail
  refine HP.out.mono ?_
  rintro e w1 ⟨rfl, hg⟩
  go_wp2_with fail
  refine (HR.out _).mono ?_
  rintro e w2 ⟨rfl, rfl⟩
  generalize rtW p = R at *
  go_wp2_with fail
  refine (hfin _).mono ?_
  rintro e w2 ⟨rfl, n, rfl⟩
  have g2 := hg.trans (gb_drewN w1 n none)
  generalize w1.drewN n = w3 at *
  cases b
  · go_wp2_with fail
    go_ret2
    first | exact .inl ⟨rfl, rfl, g2⟩ | exact ⟨rfl, g2⟩ | exact g2
  · have hs := scaleW_impl A c B y l w3 h1 hn (hm rfl) (hr.kept0 g2 hB) (Nat.le_trans hB g2.size)
    have HS := Lib.hid hs
    clear hs
    go_wp2_with fail
    refine HS.out.mono ?_
    rintro e w4 ⟨A', c', rfl, ho, hg4⟩
    go_wp2_with fail
    go_ret2
    first | exact .inr ⟨rfl, A', c', w3.heap.size, rfl, g2.size, ho, g2.trans hg4⟩ | exact ⟨A', c', w3.heap.size, rfl, g2.size, ho, g2.trans hg4⟩ | exact ⟨A', c', rfl, w3.heap.size, g2.size, ho, g2.trans hg4⟩

/-! ## weights in sixteenths -/
theorem sqs_zero {l : List G} (hl : ∀ g ∈ l, InG g) (h : ¬ 1 ≤ sqs l) : ∀ g ∈ l, g = (0, 0) := by
  intro g hg
  have a := sq_mem hl hg
  have b := sq_le (hl g hg)
  have c : sq g = 0 := by omega
  unfold sq at c
  have l0 : ∀ x : Int, 0 ≤ x * x := fun x => by
    rcases Int.le_total 0 x with q | q
    · exact Int.mul_nonneg q q
    · exact Int.mul_nonneg_of_nonpos_of_nonpos q q
  have c1 := l0 g.1
  have c2 := l0 g.2
  have d1 : g.1 * g.1 = 0 := by generalize g.1 * g.1 = X at *; generalize g.2 * g.2 = Y at *; omega
  have d2 : g.2 * g.2 = 0 := by generalize g.1 * g.1 = X at *; generalize g.2 * g.2 = Y at *; omega
  have f1 : g.1 = 0 := by rcases Int.mul_eq_zero.1 d1 with q | q <;> exact q
  have f2 : g.2 = 0 := by rcases Int.mul_eq_zero.1 d2 with q | q <;> exact q
  exact Prod.ext f1 f2
theorem fW_zero : fW (0, 0) = (0, 0) := by decide +kernel
theorem pwW_zero : bv .add 0 (pwW (0, 0)) = 0 := by decide +kernel
theorem psum_zero : ∀ (l : List G), (∀ g ∈ l, g = (0, 0)) → (l.map fW).foldl (fun s x => bv .add s (pwW x)) 0 = 0 := by
  intro l
  induction l with
  | nil => intro _; rfl
  | cons g l ih =>
    intro h
    rw [List.map_cons, List.foldl_cons, h g (by simp), fW_zero, pwW_zero]
    exact ih (fun x hx => h x (by simp [hx]))
theorem zero_path : floatToFloatBits .f64 0 .f32 = some 0 ∧ floatToFloatBits .f32 0 .f64 = some (wd 0) ∧ double.sqrt (wd 0) = some 0 ∧ floatToFloatBits .f64 0 .f32 = some (rtW 0) ∧ floatBits .quo .f32 1065353216 (rtW 0) = some 2139095040 ∧ ¬ FinW single 2139095040 := by
  unfold FinW
  decide +kernel
theorem quo_lt32 {x y r : Nat} (h : floatBits .quo .f32 x y = some r) (hr : FinW single r) : r < 2 ^ 32 := by
  have h' : single.div x y = some r := h
  unfold Format.div at h'
  exact Ieee.Format.map_write_lt single h'
/-- Weights in sixteenths, normed by the program. -/
theorem norm_c (A : Option Addr) (c B : Nat) (l : List G) (w : World) (h1 : 1 ≤ l.length) (hn : l.length ≤ 8) (hl : ∀ g ∈ l, InG g) (hr : Rd w B A l.length (ccell (l.map fW))) (hB : B ≤ w.heap.size) :
    Calls Try.prog 18 #[.slice A l.length c] w fun e w' => (¬ 1 ≤ sqs l ∧ e = .returned (.tuple #[.slice none 0 0, .bool false]) ∧ w.grownBy w' none) ∨ (1 ≤ sqs l ∧ ∃ A' c' k, e = .returned (.tuple #[.slice A' l.length c', .bool true]) ∧ w.heap.size ≤ k ∧ w'.ownsRow k 36 1 (.slice A' l.length c') l.length (lst (ccell ((l.map fW).map (sc (byW (nw (psum (l.map fW))))))) l.length) ∧ w.grownBy w' none) := by
  have hlen : (l.map fW).length = l.length := by simp
  have hok := psOk_f l hl (by omega)
  by_cases hs : 1 ≤ sqs l
  · have hp := psum_16 _ l rfl (by omega) hl
    have hsl := sqs_le l hl
    obtain ⟨n1, n2, n3⟩ := narrow_256 hp (by omega)
    obtain ⟨s, e1, e2, e3, e4, hy, _⟩ := by_ok n2 n3 hs (by omega)
    obtain ⟨hsc, _, _⟩ := norm_all l hl hn hs
    have hc := norm_by A c B _ _ true (l.map fW) w (by omega) (by omega) hok (by rw [hlen]; exact hr) hB n1 e1 e2 e3 e4 (quo_lt32 e4 hy) (by simp [hy]) (by
      intro _ j hj
      obtain ⟨f1, f2⟩ := getD_map l j (by omega)
      rw [f1]
      exact (hsc _ f2).1)
    rw [hlen] at hc
    refine hc.mono ?_
    rintro e w' (⟨q, _⟩ | ⟨_, r⟩)
    · cases q
    · exact .inr ⟨hs, r⟩
  · have hz := sqs_zero hl hs
    have hps : psum (l.map fW) = 0 := psum_zero l hz
    obtain ⟨z1, z2, z3, z4, z5, z6⟩ := zero_path
    have hc := norm_by A c B 0 2139095040 false (l.map fW) w (by omega) (by omega) hok (by rw [hlen]; exact hr) hB (by rw [hps]; exact z1) z2 z3 z4 z5 (by decide) (by simp [z6]) (by intro q; cases q)
    rw [hlen] at hc
    refine hc.mono ?_
    rintro e w' (⟨_, r⟩ | ⟨q, _⟩)
    · exact .inl ⟨hs, r⟩
    · cases q

end Go.Proofs.Ytabbfpjngbiohaa.normW
