/- Sets of integers; the differences of marks as a set; the differences that no marks have, by the program. -/
import Derived.Test.YtpmjheofjmdfeaaRows
import Derived.Test.YtpmjheofjmdfeaaSlc
import Derived.Test.YtpmjheofjmdfeaaSmall
import Derived.Test.YtpmjheofjmdfeaaListI
import Derived.Test.YtpmjheofjmdfeaaMarks
import Derived.Test.YtpmjheofjmdfeaaPut
import Derived.Test.YtpmjheofjmdfeaaDiff
import Derived.WalkKit
import Derived.ProofKit
import Derived.OpenShut
import Derived.ShutString
import Derived.ChangeOld
import Derived.Below
import Derived.Lib.Hide
import Derived.BigQuiet
import Derived.Deep.QuietTactic
import Derived.WalkLawsBesides
import Derived.Outline
import Derived.Deep.QuietTactic
import Derived.BigQuiet
import Derived.Deep.LoopGhost
import Derived.Maps.OwnOps
import Derived.Maps.Views
import Derived.MapViews
namespace Go.Proofs.Ytpmjheofjmdfeaa.iSet
open Go.ChangeShapes Go.WideShapes Go.ChangeAt Go.RowKit
open Go.ChangeMaps (open_string shut_string)
set_option linter.unusedVariables false
open Go Go.RowKit Go.Maps
open Go.Proofs.Ytpmjheofjmdfeaa.slc Go.Proofs.Ytpmjheofjmdfeaa.small Go.Proofs.Ytpmjheofjmdfeaa.listI Go.Proofs.Ytpmjheofjmdfeaa.marks Go.Proofs.Ytpmjheofjmdfeaa.put Go.Proofs.Ytpmjheofjmdfeaa.diff

theorem lawI : Keyed Try.prog 2 := int_keyed Try.underlying2
theorem keyI (x : Int) (wx : (Lit.int .i64 x).wf = true) : keyOf Try.prog 2 (.int .i64 x) = some (.int .i64 x) := keyOf_int_mk Try.underlying2 wx
/-- Block b is a set of integers, kept as a map to true. -/
def ISet (w : World) (b n : Nat) (S : List Int) : Prop :=
  ∃ D : DataW Unit, w.ownsMap Try.prog 2 (plainElem Try.prog 4) b n D ∧ IsMap D ∧ (∀ x : Int, D.atKey (.int .i64 x) (.lit (.bool false)) = .lit (.bool (decide (x ∈ S)))) ∧ D = setOf (.lit (.bool true)) (S.map fun x => Lit.int .i64 x)
theorem plain_bool_inv {v : Value} {z : DataW Unit × List MemPlace} (h : plainElem Try.prog 4 v = some z) : ∃ c, v = .bool c ∧ z = (.lit (.bool c), []) := by
  have hu := Try.underlying4
  revert hu h
  generalize Try.prog = P
  intro h hu
  unfold plainElem at h
  rw [hu] at h
  cases v <;> simp at h
  exact ⟨_, rfl, h.symm⟩
theorem ISet.made (w : World) : ISet (w.alloc (.map #[] 0)) w.heap.size 0 [] :=
  ⟨_, World.ownsMap_made w _ _ _, isMap_empty, fun x => by rfl, rfl⟩
theorem ISet.kept {w w' : World} {b n : Nat} {S : List Int} (h : ISet w b n S) (hg : w.grownBy w' none) : ISet w' b n S := by
  obtain ⟨D, ho, hm, hD, hS⟩ := h
  exact ⟨D, ho.kept hg (by simp), hm, hD, hS⟩
theorem ISet.lookup {w : World} {b n : Nat} {S : List Int} (h : ISet w b n S) (x : Int) (wx : (Lit.int .i64 x).wf = true) :
    (Instr.lookup 134 (.map (some b)) (.int .i64 x) false).run Try.prog w = .ok (.bool (decide (x ∈ S))) w := by
  obtain ⟨D, ho, hm, hD, hS⟩ := h
  obtain ⟨v, ps, hrun, hv⟩ := ho.lookup lawI Try.underlying134 (z := .bool false) (by kernel_rfl) (plainElem_bool Try.underlying4 false) (keyI x wx)
  rw [hD x] at hv
  obtain ⟨c, rfl, hz⟩ := plain_bool_inv hv
  simp only [Prod.mk.injEq, DataW.lit.injEq, Lit.bool.injEq] at hz
  rw [hrun, hz.1]
theorem ISet.update {w : World} {b n : Nat} {S : List Int} (h : ISet w b n S) (hn : n < maxLen) (x : Int) (wx : (Lit.int .i64 x).wf = true) :
    ∃ w', (Instr.mapUpdate 134 (.map (some b)) (.int .i64 x) (.bool true)).run Try.prog w = .ok () w' ∧ ISet w' b (n + 1) (S ++ [x]) ∧ w.grownBy w' (some b) := by
  obtain ⟨D, ho, hm, hD, hS⟩ := h
  obtain ⟨w', hrun, ho', hg⟩ := ho.update lawI Try.underlying134 hn (keyI x wx) (plainElem_bool Try.underlying4 true)
  refine ⟨w', hrun, ⟨_, ho', hm.put _ _, fun y => ?_, by rw [List.map_append, hS]; exact (setOf_snoc _ _ _).symm⟩, hg⟩
  by_cases he : y = x
  · subst he
    exact (atKey_put_same hm (lawI.key (keyI y wx)) _ _).trans (by rw [decide_eq_true (show y ∈ S ++ [y] by simp)])
  · have hb : decide (y ∈ S) = decide (y ∈ S ++ [x]) := by simp [he]
    exact (atKey_put_other (by intro e; injection e with _ e; exact he e) _ _).trans ((hD y).trans (by rw [hb]))

set_option maxHeartbeats 1000000 in
set_option maxRecDepth 100000 in
theorem set_impl (A : Option Addr) (c B : Nat) (xs : List Int) (w : World) (hv : mB xs = true) (hcap : xs.length ≤ c) (hcm : c ≤ 9223372036854775807) (hr : Rd w B A xs.length (fun j => (ints xs).getD j undef)) (hB : B ≤ w.heap.size) :
    Calls Try.prog 114 #[.slice A xs.length c] w fun e w' => ∃ b n, e = .returned (.map (some b)) ∧ ISet w' b n (pd xs xs.length 0) ∧ n ≤ 272 ∧ w.grownBy w' none := by
  have hl16 := (mB_yes hv).2.1
  have hbd := (mB_yes hv).2.2.1
  have HBD := Lib.hid hbd
  clear hv hbd
  have hmm := @run_makeMap Try.prog
  go_enter Try.func114, Try.ntmps114
  go_wp2_with fail
  clear hmm
  go_loopw [11] (fun i wr => ∃ k n : Nat, k ≤ xs.length ∧ i = .int .i64 k ∧ n ≤ k * 17 ∧ ISet wr w.heap.size n (pd xs k 0) ∧ w.grownBy wr none) (fun i _ => xs.length - (intOf i).toNat)
  case atStart => exact ⟨0, 0, Nat.zero_le _, rfl, Nat.zero_le _, ISet.made w, World.grownBy_alloc _ _ _⟩
  case round =>
    obtain ⟨k, n, hk, rfl, hn, hset, hg⟩ := hrel
    by_cases hlt : k < xs.length
    · obtain ⟨ad, rfl, _, hc⟩ := (hr.kept0 hg hB).at_ hlt
      rw [ints_getD xs k hlt] at hc
      have b1 := HBD.out xs[k] (List.getElem_mem hlt)
      have hkc : k + 1 ≤ c := by omega
      have hki : (k : Int) + 1 ≤ c := by omega
      go_wp2_with fail
      obtain ⟨wo, rfl⟩ : ∃ wo : World, wo = wr := ⟨_, rfl⟩
      go_loopw [21] (fun j wi => ∃ m n : Nat, m ≤ k + 1 ∧ j = .int .i64 m ∧ n ≤ k * 17 + m ∧ ISet wi w.heap.size n (pd xs k m) ∧ w.grownBy wi none) (fun j _ => k + 1 - (intOf j).toNat)
      case atStart => exact ⟨0, n, Nat.zero_le _, rfl, by omega, hset, hg⟩
      case round =>
        obtain ⟨m, n, hm, rfl, hn, hset, hgi⟩ := hrel
        by_cases hmk : m < k + 1
        · obtain ⟨bd, e, _, hd⟩ := (hr.kept0 hgi hB).at_ (show m < xs.length by omega)
          injection e with e
          subst e
          rw [ints_getD xs m (by omega)] at hd
          have b2 := HBD.out xs[m] (List.getElem_mem (show m < xs.length by omega))
          obtain ⟨w2, hrun, hs2, hg2⟩ := hset.update (by unfold maxLen; omega) (xs[k] - xs[m]) (WalkArith.wf_i64 (by omega))
          have hpd := pd_next xs k m
          rw [dif_at xs k m hlt (by omega)] at hpd
          rw [← hpd] at hs2
          have hgo := gb_new hgi hg2 (by intro g e; injection e with e; omega)
          have HS := Lib.hid hs2
          clear hpd hs2 hg2
          go_wp2_with fail
          go_roundw
          case rel => exact ⟨m + 1, n + 1, by omega, by go_num, by omega, HS.out, hgo⟩
          case measure => simp [intOf]; omega
        · obtain rfl : m = k + 1 := by omega
          rw [pd_row] at hset
          have HS := Lib.hid hset
          clear hset
          go_wp2_with fail
          go_roundw
          case rel => exact ⟨k + 1, n, by omega, by go_num, by omega, HS.out, hgi⟩
          case measure => simp [intOf]; omega
    · obtain rfl : k = xs.length := by omega
      go_wp2_with fail
      go_ret
      exact ⟨_, _, rfl, hset, by omega, hg⟩

end Go.Proofs.Ytpmjheofjmdfeaa.iSet
