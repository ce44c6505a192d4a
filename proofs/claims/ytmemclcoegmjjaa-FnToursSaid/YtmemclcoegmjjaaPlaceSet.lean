/- Places: whether they are valid, by a set. -/
import Derived.Test.YtmemclcoegmjjaaRows
import Derived.Test.YtmemclcoegmjjaaSlc
import Derived.Test.YtmemclcoegmjjaaSmall
import Derived.Test.YtmemclcoegmjjaaOpens
import Derived.Test.YtmemclcoegmjjaaPlaces
import Derived.WalkKit
import Derived.ProofKit
import Derived.OpenShut
import Derived.ShutString
import Derived.ChangeOld
import Derived.Below
import Derived.Lib.Hide
import Derived.BigQuiet
import Derived.Deep.QuietTactic
import Derived.WalkLawsBesides
import Derived.Outline
import Derived.Deep.QuietTactic
import Derived.BigQuiet
import Derived.Deep.LoopGhost
import Derived.Laws.StructEq
import Derived.Maps.OwnOps
import Derived.Maps.Views
import Derived.MapViews
import Derived.DeepKeys4
namespace Go.Proofs.Ytmemclcoegmjjaa.placeSet
open Go.ChangeShapes Go.WideShapes Go.ChangeAt Go.RowKit
open Go.ChangeMaps (open_string shut_string)
set_option linter.unusedVariables false
open Go Go.RowKit Go.Maps
open Go.Proofs.Ytmemclcoegmjjaa.slc Go.Proofs.Ytmemclcoegmjjaa.small Go.Proofs.Ytmemclcoegmjjaa.opens Go.Proofs.Ytmemclcoegmjjaa.places

theorem laid : laidOutB Try.prog = true := by kernel_rfl
theorem lawK : Keyed Try.prog 51 := Keyed.of_law (deep_law_laid laid (m := 3) (by decide) (of_decide_eq_true (by kernel_rfl)) (by kernel_rfl) (by rw [Try.underlying51]))
theorem formed_pl (x y : Int) : (Value.agg #[.int .i64 x, .int .i64 y]).formed Try.prog 51 = true := by
  have hc : Try.prog.cellsOf 51 = 2 := by kernel_rfl
  simp [Value.formed, Try.underlying51, hc]
theorem key_pl (x y : Int) (w : World) (wx : (Lit.int .i64 x).wf = true) (wy : (Lit.int .i64 y).wf = true) : ∃ l, keyOf Try.prog 51 (.agg #[.int .i64 x, .int .i64 y]) = some l :=
  ⟨_, (keyOf_asKey (H := Unit) (enc := fun _ => ()) (w := w) (base := 0) (sp := fun _ => false) (held := false) (by kernel_rfl) (by rw [Try.underlying51]) (formed_pl x y)
    (shut_pair Try.underlying51 (by kernel_rfl) (by kernel_rfl) Try.underlying2 Try.underlying2 wx wy)).1⟩

/-- Block b is a set of places, kept as a map to true. -/
def PSet (w : World) (b n : Nat) (S : List (Int × Int)) : Prop :=
  ∃ D : DataW Unit, w.ownsMap Try.prog 51 (plainElem Try.prog 4) b n D ∧ IsMap D ∧
    ∀ x y l, keyOf Try.prog 51 (.agg #[.int .i64 x, .int .i64 y]) = some l → D.atKey l (.lit (.bool false)) = .lit (.bool (decide ((x, y) ∈ S)))
theorem plain_bool_inv {v : Value} {z : DataW Unit × List MemPlace} (h : plainElem Try.prog 4 v = some z) : ∃ c, v = .bool c ∧ z = (.lit (.bool c), []) := by
  have hu := Try.underlying4
  revert hu h
  generalize Try.prog = P
  intro h hu
  unfold plainElem at h
  rw [hu] at h
  cases v <;> simp at h
  exact ⟨_, rfl, h.symm⟩
theorem PSet.made (w : World) : PSet (w.alloc (.map #[] 0)) w.heap.size 0 [] :=
  ⟨_, World.ownsMap_made w _ _ _, isMap_empty, fun x y l _ => by rfl⟩
theorem PSet.kept {w w' : World} {b n : Nat} {S : List (Int × Int)} (h : PSet w b n S) (hg : w.grownBy w' none) : PSet w' b n S := by
  obtain ⟨D, ho, hm, hD⟩ := h
  exact ⟨D, ho.kept hg (by simp), hm, hD⟩
theorem PSet.lookup {w : World} {b n : Nat} {S : List (Int × Int)} (h : PSet w b n S) (x y : Int) (wx : (Lit.int .i64 x).wf = true) (wy : (Lit.int .i64 y).wf = true) :
    (Instr.lookup 176 (.map (some b)) (.agg #[.int .i64 x, .int .i64 y]) false).run Try.prog w = .ok (.bool (decide ((x, y) ∈ S))) w := by
  obtain ⟨D, ho, hm, hD⟩ := h
  obtain ⟨l, hl⟩ := key_pl x y w wx wy
  obtain ⟨v, ps, hrun, hv⟩ := ho.lookup lawK Try.underlying176 (z := .bool false) (by kernel_rfl) (plainElem_bool Try.underlying4 false) hl
  rw [hD x y l hl] at hv
  obtain ⟨c, rfl, hz⟩ := plain_bool_inv hv
  simp only [Prod.mk.injEq, DataW.lit.injEq, Lit.bool.injEq] at hz
  rw [hrun, hz.1]
theorem PSet.update {w : World} {b n : Nat} {S : List (Int × Int)} (h : PSet w b n S) (hn : n < maxLen) (x y : Int) (wx : (Lit.int .i64 x).wf = true) (wy : (Lit.int .i64 y).wf = true) :
    ∃ w', (Instr.mapUpdate 176 (.map (some b)) (.agg #[.int .i64 x, .int .i64 y]) (.bool true)).run Try.prog w = .ok () w' ∧ PSet w' b (n + 1) (S ++ [(x, y)]) ∧ w.grownBy w' (some b) := by
  obtain ⟨D, ho, hm, hD⟩ := h
  obtain ⟨l, hl⟩ := key_pl x y w wx wy
  obtain ⟨w', hrun, ho', hg⟩ := ho.update lawK Try.underlying176 hn hl (plainElem_bool Try.underlying4 true)
  refine ⟨w', hrun, ⟨_, ho', hm.put _ _, fun x' y' l' hl' => ?_⟩, hg⟩
  by_cases he : l' = l
  · subst he
    have e := lawK.inj hl hl'
    simp only [Value.agg.injEq, Array.mk.injEq, List.cons.injEq, Value.int.injEq, true_and, and_true] at e
    obtain ⟨rfl, rfl⟩ := e
    exact (atKey_put_same hm (lawK.key hl) _ _).trans (by rw [decide_eq_true (show (x, y) ∈ S ++ [(x, y)] by simp)])
  · have hne : (x', y') ≠ (x, y) := by
      intro e
      injection e with e1 e2
      subst e1 e2
      rw [hl] at hl'
      injection hl' with e
      exact he e.symm
    have hb : decide ((x', y') ∈ S) = decide ((x', y') ∈ S ++ [(x, y)]) := by simp [hne]
    exact (atKey_put_other he _ _).trans ((hD x' y' l' hl').trans (by rw [hb]))

theorem pre_mem {ps : List (Int × Int)} {k : Nat} (hk : k < ps.length) : (ps[k] ∈ ps.take k) ↔ ∃ (i : Nat) (hi : i < k), ps[i] = ps[k] := by
  rw [List.mem_take_iff_getElem]
  constructor
  · rintro ⟨i, hi, e⟩; exact ⟨i, by omega, e⟩
  · rintro ⟨i, hi, e⟩; exact ⟨i, by omega, e⟩
theorem ok_wf {x y : Int} (h : okB x y = true) : (Lit.int .i64 x).wf = true ∧ (Lit.int .i64 y).wf = true := by
  obtain ⟨h1, h2, h3, h4⟩ := ok_yes h
  exact ⟨WalkArith.wf_i64 (by omega), WalkArith.wf_i64 (by omega)⟩

theorem make_hint (w : World) (n : Int) : (Instr.makeMap 176 (some (.int .i64 n))).run Try.prog w = .ok (.map (some w.heap.size)) (w.alloc (.map #[] 0)) := by
  simp only [Instr.makeMap, Sem.run_bind, run_underlying Try.underlying176, Result.andThen_ok]
  rfl

set_option maxHeartbeats 800000 in
set_option maxRecDepth 100000 in
theorem is_impl (A : Option Addr) (c B : Nat) (ps : List (Int × Int)) (w : World) (hm : ps.length ≤ 9223372036854775807) (hr : Rd w B A (ps.length * 2) (pcell ps)) (hB : B ≤ w.heap.size) :
    Calls Try.prog 70 #[.slice A ps.length c] w fun e w' => e = .returned (.bool (vp ps)) ∧ w.grownBy w' none := by
  by_cases hl : (ps.length : Int) < 1 ∨ 16 < (ps.length : Int)
  · have hv := vp_len (ps := ps) (by omega)
    have HV := Lib.hid hv
    clear hv
    go_enter Try.func70, Try.ntmps70
    go_wp2_with (go_at_call 83; refine (count_no _ _ hl).mono ?_; rintro e w' ⟨rfl, rfl⟩)
    go_ret
    exact ⟨ret_bool HV.out.symm, World.grownBy.refl _ _⟩
  · have h1 : 1 ≤ (ps.length : Int) := by omega
    have h2 : (ps.length : Int) ≤ 16 := by omega
    clear hl
    have hmm := make_hint
    go_enter Try.func70, Try.ntmps70
    go_wp2_with (go_at_call 83; refine (count_yes _ _ h1 h2).mono ?_; rintro e w' ⟨rfl, rfl⟩)
    clear hmm
    go_loopw [15] (fun i wr => ∃ k : Nat, k ≤ ps.length ∧ i = .int .i64 k ∧ Pre ps k ∧ PSet wr w.heap.size k (ps.take k) ∧ w.grownBy wr none) (fun i _ => ps.length - (intOf i).toNat)
    case atStart => exact ⟨0, Nat.zero_le _, rfl, Pre.zero _, PSet.made w, World.grownBy_alloc _ _ _⟩
    case round =>
      obtain ⟨k, hk, rfl, hpre, hset, hg⟩ := hrel
      by_cases hlt : k < ps.length
      · obtain ⟨ad, rfl, hab, hx, hy⟩ := Rd.pair (hr.kept0 hg hB) hlt
        go_wp2_with fail
        refine (place_impl _ _ _).mono ?_
        rintro e w1 ⟨rfl, hg1⟩
        have hc0 := (boxed2 hg1).1
        have hc1 := (boxed2 hg1).2
        have hgn := (World.grownBy_alloc _ _ _).trans hg1
        cases hok : okB ps[k].1 ps[k].2
        · have hv := vp_bad hlt hok
          have HV := Lib.hid hv
          clear hv hok
          go_wp2_with fail
          go_ret
          exact ⟨ret_bool HV.out.symm, hg.trans hgn⟩
        · have hset1 := hset.kept hgn
          obtain ⟨wx, wy⟩ := ok_wf hok
          have hlook := hset1.lookup _ _ wx wy
          by_cases hin : (ps[k].1, ps[k].2) ∈ ps.take k
          · rw [decide_eq_true hin] at hlook
            have hv : vp ps = false := by
              obtain ⟨i, hi, e⟩ := (pre_mem hlt).1 hin
              exact vp_twice hlt hi e
            have HV := Lib.hid hv
            clear hv hok hin wx wy
            go_wp2_with fail
            go_ret
            exact ⟨ret_bool HV.out.symm, hg.trans hgn⟩
          · rw [decide_eq_false hin] at hlook
            obtain ⟨w2, hrun, hs2, hg2⟩ := hset1.update (by unfold maxLen; omega) _ _ wx wy
            have hp' := hpre.succ hlt hok fun j hj e => hin ((pre_mem hlt).2 ⟨j, hj, e⟩)
            have htake : ps.take (k + 1) = ps.take k ++ [(ps[k].1, ps[k].2)] := List.take_succ_eq_append_getElem hlt
            have hgo := gb_new (hg.trans hgn) hg2 (by intro g e; injection e with e; omega)
            have HT := Lib.hid htake
            clear htake hok hin wx wy hg2
            go_wp2_with fail
            go_roundw
            case rel => exact ⟨k + 1, by omega, by go_num, hp', by rw [HT.out]; exact hs2, hgo⟩
            case measure => simp [intOf]; omega
      · obtain rfl : k = ps.length := by omega
        have hv := hpre.valid (by omega) (by omega)
        have HV := Lib.hid hv
        clear hv
        go_wp2
        go_ret
        exact ⟨ret_bool HV.out.symm, hg⟩

end Go.Proofs.Ytmemclcoegmjjaa.placeSet
