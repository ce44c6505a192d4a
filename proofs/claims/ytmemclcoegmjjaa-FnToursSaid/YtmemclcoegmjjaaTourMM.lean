/- What a tour's search keeps: a map from stops to ticks. -/
import Derived.Test.YtmemclcoegmjjaaRows
import Derived.Test.YtmemclcoegmjjaaSlc
import Derived.Test.YtmemclcoegmjjaaSmall
import Derived.Test.YtmemclcoegmjjaaOpens
import Derived.Test.YtmemclcoegmjjaaPlanNum
import Derived.Test.YtmemclcoegmjjaaDirsOk
import Derived.Test.YtmemclcoegmjjaaOrdC
import Derived.Test.YtmemclcoegmjjaaTourC
import Derived.Test.YtmemclcoegmjjaaTourN
import Derived.Test.YtmemclcoegmjjaaTourM
import Derived.Test.YtmemclcoegmjjaaTourL
import Derived.WalkKit
import Derived.ProofKit
import Derived.OpenShut
import Derived.ShutString
import Derived.ChangeOld
import Derived.Below
import Derived.Lib.Hide
import Derived.BigQuiet
import Derived.Deep.QuietTactic
import Derived.WalkLawsBesides
import Derived.Outline
import Derived.Deep.QuietTactic
import Derived.BigQuiet
import Derived.Deep.LoopGhost
import Derived.Laws.StructEq
import Derived.Maps.OwnOps
import Derived.Maps.OwnSet
import Derived.Maps.Views
import Derived.MapViews
import Derived.DeepKeys4
namespace Go.Proofs.Ytmemclcoegmjjaa.tourMM
open Go.ChangeShapes Go.WideShapes Go.ChangeAt Go.RowKit
open Go.ChangeMaps (open_string shut_string)
set_option linter.unusedVariables false
open Go Go.RowKit Go.Maps
open Go.Proofs.Ytmemclcoegmjjaa.slc Go.Proofs.Ytmemclcoegmjjaa.small Go.Proofs.Ytmemclcoegmjjaa.opens Go.Proofs.Ytmemclcoegmjjaa.planNum Go.Proofs.Ytmemclcoegmjjaa.dirsOk Go.Proofs.Ytmemclcoegmjjaa.tourC Go.Proofs.Ytmemclcoegmjjaa.tourN

theorem laid : laidOutB Try.prog = true := by kernel_rfl
theorem lawK : Keyed Try.prog 146 := Keyed.of_law (deep_law_laid laid (m := 3) (by decide) (of_decide_eq_true (by kernel_rfl)) (by kernel_rfl) (by rw [Try.underlying146]))
theorem formed_st (x y : Int) : (Value.agg #[.int .i64 x, .int .i64 y]).formed Try.prog 146 = true := by
  have hc : Try.prog.cellsOf 146 = 2 := by kernel_rfl
  simp [Value.formed, Try.underlying146, hc]
theorem key_st (x y : Int) (w : World) (wx : (Lit.int .i64 x).wf = true) (wy : (Lit.int .i64 y).wf = true) : ∃ l, keyOf Try.prog 146 (.agg #[.int .i64 x, .int .i64 y]) = some l :=
  ⟨_, (keyOf_asKey (H := Unit) (enc := fun _ => ()) (w := w) (base := 0) (sp := fun _ => false) (held := false) (by kernel_rfl) (by rw [Try.underlying146]) (formed_st x y)
    (shut_pair Try.underlying146 (by kernel_rfl) (by kernel_rfl) Try.underlying2 Try.underlying2 wx wy)).1⟩

/-- The block b keeps ticks from stops: what is there is right. -/
def Memo (N : Nat) (c : Nat → Nat → Int) (w : World) (b n : Nat) : Prop :=
  ∃ D : DataW Unit, w.ownsMap Try.prog 146 (plainElem Try.prog 2) b n D ∧ IsMap D ∧
    ∀ a m l, a < N → m < 2 ^ N → keyOf Try.prog 146 (.agg #[.int .i64 (a : Nat), .int .i64 (m : Nat)]) = some l → Maps.has D l = true → D.atKey l (.lit (.int .i64 0)) = .lit (.int .i64 (L N c a m))
theorem Memo.made (N : Nat) (c : Nat → Nat → Int) (w : World) : Memo N c (w.alloc (.map #[] 0)) w.heap.size 0 :=
  ⟨_, World.ownsMap_made w _ _ _, isMap_empty, fun a m l _ _ _ h => by cases h⟩
theorem Memo.kept {N : Nat} {c : Nat → Nat → Int} {w w' : World} {b n : Nat} (h : Memo N c w b n) (hg : w.grownBy w' none) : Memo N c w' b n := by
  obtain ⟨D, ho, hm, hD⟩ := h
  exact ⟨D, ho.kept hg (by simp), hm, hD⟩
theorem wf_small (x : Nat) (h : x < 128) : (Lit.int .i64 x).wf = true := WalkArith.wf_i64 (by omega)
theorem Memo.look {N : Nat} (hN : N ≤ 7) {c : Nat → Nat → Int} {w : World} {b n : Nat} (h : Memo N c w b n) (a m : Nat) (ha : a < N) (hm2 : m < 2 ^ N) :
    ∃ x ok, (Instr.lookup 142 (.map (some b)) (.agg #[.int .i64 a, .int .i64 m]) true).run Try.prog w = .ok (.tuple #[.int .i64 x, .bool ok]) w ∧ (ok = true → x = L N c a m) := by
  obtain ⟨D, ho, hm, hD⟩ := h
  have h7 := two_le hN
  obtain ⟨l, hl⟩ := key_st a m w (wf_small a (by omega)) (wf_small m (by omega))
  obtain ⟨v, ps, hrun, hv⟩ := ho.look_ok lawK Try.underlying142 (z := .int .i64 0) (by kernel_rfl) (plainElem_int Try.underlying2 (by decide)) hl
  obtain ⟨x, rfl, hz, _⟩ := plainElem_int_inv Try.underlying2 hv
  simp only [Prod.mk.injEq] at hz
  refine ⟨x, _, hrun, fun hok => ?_⟩
  have := hD a m l ha hm2 hl hok
  rw [hz.1] at this
  simp only [DataW.lit.injEq, Lit.int.injEq, true_and] at this
  exact this
theorem Memo.put {N : Nat} (hN : N ≤ 7) {c : Nat → Nat → Int} {w : World} {b n : Nat} (h : Memo N c w b n) (hn : n < maxLen) (a m : Nat) (ha : a < N) (hm2 : m < 2 ^ N) (hw : (Lit.int .i64 (L N c a m)).wf = true) :
    ∃ w', (Instr.mapUpdate 142 (.map (some b)) (.agg #[.int .i64 a, .int .i64 m]) (.int .i64 (L N c a m))).run Try.prog w = .ok () w' ∧ Memo N c w' b (n + 1) ∧ w.grownBy w' (some b) := by
  obtain ⟨D, ho, hm, hD⟩ := h
  have h7 := two_le hN
  obtain ⟨l, hl⟩ := key_st a m w (wf_small a (by omega)) (wf_small m (by omega))
  obtain ⟨w', hrun, ho', hg⟩ := ho.update lawK Try.underlying142 hn hl (plainElem_int Try.underlying2 hw)
  refine ⟨w', hrun, ⟨_, ho', hm.put _ _, fun a' m' l' ha' hm' hl' hok => ?_⟩, hg⟩
  by_cases he : l' = l
  · subst he
    have e := lawK.inj hl hl'
    simp only [Value.agg.injEq, Array.mk.injEq, List.cons.injEq, Value.int.injEq, true_and, and_true] at e
    obtain ⟨e1, e2⟩ := e
    obtain rfl : a = a' := by omega
    obtain rfl : m = m' := by omega
    exact atKey_put_same hm (lawK.key hl) _ _
  · have hok' : Maps.has D l' = true := by
      rw [has_put_other he] at hok
      exact hok
    exact (atKey_put_other he _ _).trans (hD a' m' l' ha' hm' hl' hok')

end Go.Proofs.Ytmemclcoegmjjaa.tourMM
