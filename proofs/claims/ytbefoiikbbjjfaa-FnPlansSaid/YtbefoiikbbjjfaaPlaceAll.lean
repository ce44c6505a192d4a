/- Places: whether they are valid, by comparisons and by a set. -/
/- Places: whether they are valid, by a set. -/
/- Lists of places in a law: compared, marked, held, copied. -/
import Derived.Test.YtbefoiikbbjjfaaRows
import Derived.Test.YtbefoiikbbjjfaaSlc
import Derived.Test.YtbefoiikbbjjfaaSmall
import Derived.Test.YtbefoiikbbjjfaaOpens
import Derived.WalkKit
import Derived.ProofKit
import Derived.OpenShut
import Derived.ShutString
import Derived.ChangeOld
import Derived.Below
import Derived.Lib.Hide
import Derived.BigQuiet
import Derived.Deep.QuietTactic
import Derived.WalkLawsBesides
import Derived.Outline
import Derived.Deep.LoopGhost
import Derived.Laws.StructEq
import Derived.Maps.OwnOps
import Derived.Maps.Views
import Derived.MapViews
import Derived.DeepKeys4
import Derived.StillTailTactics
namespace Go.Proofs.Ytbefoiikbbjjfaa.places
open Go.ChangeShapes Go.WideShapes Go.ChangeAt Go.RowKit
open Go.ChangeMaps (open_string shut_string)
set_option linter.unusedVariables false
open Go Go.RowKit
open Go.Proofs.Ytbefoiikbbjjfaa.slc Go.Proofs.Ytbefoiikbbjjfaa.small Go.Proofs.Ytbefoiikbbjjfaa.opens

/-- A place's parts are within their bounds. -/
def okB (x y : Int) : Bool := decide (-4096 ≤ x ∧ x ≤ 4096 ∧ -4096 ≤ y ∧ y ≤ 4096)
theorem ok_yes {x y : Int} (h : okB x y = true) : -4096 ≤ x ∧ x ≤ 4096 ∧ -4096 ≤ y ∧ y ≤ 4096 := of_decide_eq_true h
theorem ok_no {x y : Int} (h : okB x y = false) : (x < -4096 ∨ 4096 < x) ∨ ((-4096 ≤ x ∧ x ≤ 4096) ∧ (y < -4096 ∨ 4096 < y)) := by
  have := of_decide_eq_false h
  omega

theorem offset_yes (n : Int) (w : World) (h : -4096 ≤ n) (h2 : n ≤ 4096) :
    Calls Try.prog 137 #[.int .i64 n] w fun e w' => e = .returned (.bool true) ∧ w = w' := by
  go_enter Try.func137, Try.ntmps137
  go_wp2_with (go_at_call 100; refine (within_yes _ _ _ _ h h2).mono ?_; rintro e w' ⟨rfl, rfl⟩)
  go_ret
  exact ⟨rfl, rfl⟩
theorem offset_no (n : Int) (w : World) (h : n < -4096 ∨ 4096 < n) :
    Calls Try.prog 137 #[.int .i64 n] w fun e w' => e = .returned (.bool false) ∧ w = w' := by
  go_enter Try.func137, Try.ntmps137
  go_wp2_with (go_at_call 100; refine (within_no _ _ _ _ h).mono ?_; rintro e w' ⟨rfl, rfl⟩)
  go_ret
  exact ⟨rfl, rfl⟩
theorem count_yes (n : Int) (w : World) (h : 1 ≤ n) (h2 : n ≤ 16) :
    Calls Try.prog 82 #[.int .i64 n] w fun e w' => e = .returned (.bool true) ∧ w = w' := by
  go_enter Try.func82, Try.ntmps82
  go_wp2_with (go_at_call 100; refine (within_yes _ _ _ _ h h2).mono ?_; rintro e w' ⟨rfl, rfl⟩)
  go_ret
  exact ⟨rfl, rfl⟩
theorem count_no (n : Int) (w : World) (h : n < 1 ∨ 16 < n) :
    Calls Try.prog 82 #[.int .i64 n] w fun e w' => e = .returned (.bool false) ∧ w = w' := by
  go_enter Try.func82, Try.ntmps82
  go_wp2_with (go_at_call 100; refine (within_no _ _ _ _ h).mono ?_; rintro e w' ⟨rfl, rfl⟩)
  go_ret
  exact ⟨rfl, rfl⟩

set_option maxHeartbeats 400000 in
theorem place_spec (x y : Int) (w : World) :
    Calls Try.prog 183 #[.agg #[.int .i64 x, .int .i64 y]] w fun e w' => e = .returned (.bool (okB x y)) ∧ w.grownBy w' none := by
  cases hd : okB x y
  · rcases ok_no hd with h | ⟨⟨h1, h2⟩, h⟩
    · clear hd
      go_enter Try.func183, Try.ntmps183
      go_wp2_with (go_at_call 153; refine (in_no _ _ _ _ h).mono ?_; rintro e w' ⟨rfl, rfl⟩)
      go_ret
      exact ⟨rfl, World.grownBy_alloc _ _ _⟩
    · clear hd
      go_enter Try.func183, Try.ntmps183
      go_wp2_with (fail)
      refine (in_yes _ _ _ _ (by omega) (by omega)).mono ?_
      rintro e w' ⟨rfl, rfl⟩
      go_wp2_with (go_at_call 153; refine (in_no _ _ _ _ h).mono ?_; rintro e w' ⟨rfl, rfl⟩)
      go_ret
      exact ⟨rfl, World.grownBy_alloc _ _ _⟩
  · obtain ⟨h1, h2, h3, h4⟩ := ok_yes hd
    clear hd
    go_enter Try.func183, Try.ntmps183
    go_wp2_with (go_at_call 153; refine (in_yes _ _ _ _ (by omega) (by omega)).mono ?_; rintro e w' ⟨rfl, rfl⟩)
    go_ret
    exact ⟨rfl, World.grownBy_alloc _ _ _⟩

set_option maxHeartbeats 400000 in
theorem place_impl (x y : Int) (w : World) :
    Calls Try.prog 180 #[.agg #[.int .i64 x, .int .i64 y]] w fun e w' => e = .returned (.bool (okB x y)) ∧ w.grownBy w' none := by
  cases hd : okB x y
  · rcases ok_no hd with h | ⟨⟨h1, h2⟩, h⟩
    · clear hd
      go_enter Try.func180, Try.ntmps180
      go_wp2_with (go_at_call 137; refine (offset_no _ _ h).mono ?_; rintro e w' ⟨rfl, rfl⟩)
      go_ret
      exact ⟨rfl, World.grownBy_alloc _ _ _⟩
    · clear hd
      go_enter Try.func180, Try.ntmps180
      go_wp2_with (fail)
      refine (offset_yes _ _ (by omega) (by omega)).mono ?_
      rintro e w' ⟨rfl, rfl⟩
      go_wp2_with (go_at_call 137; refine (offset_no _ _ h).mono ?_; rintro e w' ⟨rfl, rfl⟩)
      go_ret
      exact ⟨rfl, World.grownBy_alloc _ _ _⟩
  · obtain ⟨h1, h2, h3, h4⟩ := ok_yes hd
    clear hd
    go_enter Try.func180, Try.ntmps180
    go_wp2_with (go_at_call 137; refine (offset_yes _ _ (by omega) (by omega)).mono ?_; rintro e w' ⟨rfl, rfl⟩)
    go_ret
    exact ⟨rfl, World.grownBy_alloc _ _ _⟩

/-- Places are valid. -/
def vp (ps : List (Int × Int)) : Bool := decide (1 ≤ ps.length ∧ ps.length ≤ 16 ∧ (∀ p ∈ ps, okB p.1 p.2 = true) ∧ ps.Nodup)
theorem vp_mk {ps : List (Int × Int)} (h1 : 1 ≤ ps.length) (h2 : ps.length ≤ 16) (h3 : ∀ p ∈ ps, okB p.1 p.2 = true) (h4 : ps.Nodup) : vp ps = true := decide_eq_true ⟨h1, h2, h3, h4⟩
theorem vp_yes {ps : List (Int × Int)} (h : vp ps = true) : 1 ≤ ps.length ∧ ps.length ≤ 16 ∧ (∀ p ∈ ps, okB p.1 p.2 = true) ∧ ps.Nodup := of_decide_eq_true h
theorem vp_len {ps : List (Int × Int)} (h : ps.length < 1 ∨ 16 < ps.length) : vp ps = false := decide_eq_false (fun h' => by omega)
theorem vp_bad {ps : List (Int × Int)} {k : Nat} (hk : k < ps.length) (h : okB ps[k].1 ps[k].2 = false) : vp ps = false :=
  decide_eq_false (fun h' => by have := h'.2.2.1 _ (List.getElem_mem hk); rw [h] at this; cases this)
theorem vp_twice {ps : List (Int × Int)} {k j : Nat} (hk : k < ps.length) (hj : j < k) (h : ps[j] = ps[k]) : vp ps = false :=
  decide_eq_false (fun h' => by have := (List.pairwise_iff_getElem.1 h'.2.2.2) j k (by omega) hk hj; exact this h)

/-- The first k places are valid ones. -/
def Pre (ps : List (Int × Int)) (k : Nat) : Prop := ∀ i (hi : i < ps.length), i < k → okB ps[i].1 ps[i].2 = true ∧ ∀ j (hj : j < i), ps[j] ≠ ps[i]
theorem Pre.zero (ps : List (Int × Int)) : Pre ps 0 := fun i _ h => absurd h (by omega)
theorem Pre.succ {ps : List (Int × Int)} {k : Nat} (h : Pre ps k) (hk : k < ps.length) (h1 : okB ps[k].1 ps[k].2 = true) (h2 : ∀ j (hj : j < k), ps[j] ≠ ps[k]) : Pre ps (k + 1) := by
  intro i hi hlt
  rcases Nat.lt_succ_iff_lt_or_eq.1 hlt with h' | rfl
  · exact h i hi h'
  · exact ⟨h1, h2⟩
theorem Pre.valid {ps : List (Int × Int)} (h : Pre ps ps.length) (h1 : 1 ≤ ps.length) (h2 : ps.length ≤ 16) : vp ps = true := by
  refine vp_mk h1 h2 (fun p hp => ?_) (List.pairwise_iff_getElem.2 fun i j hi hj hij => (h j hj hj).2 i hij)
  obtain ⟨i, hi, rfl⟩ := List.mem_iff_getElem.1 hp
  exact (h i hi hi).1

/-- The two cells of a place. -/
theorem pcell_at (ps : List (Int × Int)) (k : Nat) (hk : k < ps.length) : pcell ps (k * 2) = .int .i64 ps[k].1 ∧ pcell ps (k * 2 + 1) = .int .i64 ps[k].2 := by
  unfold pcell
  have e1 : k * 2 / 2 = k := by omega
  have e2 : (k * 2 + 1) / 2 = k := by omega
  rw [if_pos (by omega), if_neg (by omega), e1, e2]
  simp [List.getD, hk]
theorem Rd.pair {w : World} {B : Nat} {A : Option Addr} {ps : List (Int × Int)} (h : Rd w B A (ps.length * 2) (pcell ps)) {k : Nat} (hk : k < ps.length) :
    ∃ ad, A = some ad ∧ ad.block < B ∧ w.cell? (ad.add (k * 2)) = some (.int .i64 ps[k].1) ∧ w.cell? ⟨(ad.add (k * 2)).block, (ad.add (k * 2)).off + 1, none⟩ = some (.int .i64 ps[k].2) := by
  obtain ⟨ad, e, hb, hc⟩ := h (by omega)
  have hp := pcell_at ps k hk
  exact ⟨ad, e, hb, (hc _ (by omega)).trans (by rw [hp.1]), by rw [add_next]; exact (hc _ (by omega)).trans (by rw [hp.2])⟩

theorem run_eq_place (w : World) (x y a b : Int) : (binOp .eql 96 (.agg #[.int .i64 x, .int .i64 y]) (.agg #[.int .i64 a, .int .i64 b])).run Try.prog w = .ok (.bool (x == a && y == b)) w := by
  have e : ∀ w : World, (Op.equalIn 10000 96 (.agg #[.int .i64 x, .int .i64 y]) (.agg #[.int .i64 a, .int .i64 b])).run Try.prog w = .ok (x == a && y == b) w := by
    intro w
    rw [run_equalIn_agg (P := Try.prog) w 9999 96 _ _ (by kernel_rfl) (by kernel_rfl)]
    simp only [Program.fieldsOf, Try.underlying96]
    simp [Op.eqFields, go_sem, Try.underlying2, part]
    by_cases h1 : x = a <;> by_cases h2 : y = b <;> simp [h1, h2]
  rw [run_eql_struct, e]
  rfl

set_option maxHeartbeats 800000 in
set_option maxRecDepth 100000 in
theorem is_spec (A : Option Addr) (c B : Nat) (ps : List (Int × Int)) (w : World) (hm : ps.length ≤ 9223372036854775807) (hr : Rd w B A (ps.length * 2) (pcell ps)) (hB : B ≤ w.heap.size) :
    Calls Try.prog 127 #[.slice A ps.length c] w fun e w' => e = .returned (.bool (vp ps)) ∧ w.grownBy w' none := by
  by_cases hl : (ps.length : Int) < 1 ∨ 16 < (ps.length : Int)
  · have hv := vp_len (ps := ps) (by omega)
    have HV := Lib.hid hv
    clear hv
    go_enter Try.func127, Try.ntmps127
    go_wp2_with (go_at_call 153; refine (in_no _ _ _ _ hl).mono ?_; rintro e w' ⟨rfl, rfl⟩)
    go_ret
    exact ⟨ret_bool HV.out.symm, World.grownBy.refl _ _⟩
  · have h1 : 1 ≤ (ps.length : Int) := by omega
    have h2 : (ps.length : Int) ≤ 16 := by omega
    clear hl
    go_enter Try.func127, Try.ntmps127
    go_wp2_with (go_at_call 153; refine (in_yes _ _ _ _ h1 h2).mono ?_; rintro e w' ⟨rfl, rfl⟩)
    go_loopw [3, 4] (fun i _ wr => ∃ k : Nat, k ≤ ps.length ∧ i = .int .i64 k ∧ Pre ps k ∧ w.grownBy wr none) (fun i _ _ => ps.length - (intOf i).toNat)
    case atStart => exact ⟨0, Nat.zero_le _, rfl, Pre.zero _, World.grownBy.refl _ _⟩
    case round =>
      obtain ⟨k, hk, rfl, hpre, hg⟩ := hrel
      by_cases hlt : k < ps.length
      · obtain ⟨ad, rfl, hab, hx, hy⟩ := Rd.pair (hr.kept0 hg hB) hlt
        have hadd := add_next ad (k * 2)
        have HA := Lib.hid hadd
        clear hadd
        go_wp2_with fail
        refine (place_spec _ _ _).mono ?_
        rintro e w1 ⟨rfl, hg1⟩
        by_cases hok : okB ps[k].1 ps[k].2 = true
        · have hg2 := hg.trans hg1
          go_wp2_with fail
          clear hx hy hg hg1
          obtain ⟨wo, rfl⟩ : ∃ wo : World, wo = w1 := ⟨_, rfl⟩
          go_loopw [4] (fun j wi => ∃ m : Nat, m ≤ k ∧ j = .int .i64 m ∧ (∀ i (hi : i < ps.length), i < m → ps[i] ≠ ps[k]) ∧ w.grownBy wi none) (fun j _ => k - (intOf j).toNat)
          case atStart => exact ⟨0, Nat.zero_le _, rfl, fun i _ h => absurd h (by omega), hg2⟩
          case round =>
            obtain ⟨m, hm', rfl, hne, hgi⟩ := hrel
            by_cases hmk : m < k
            · obtain ⟨bd, e, _, hx1, hy1⟩ := Rd.pair (hr.kept0 hgi hB) hlt
              obtain ⟨bd', e', _, hx2, hy2⟩ := Rd.pair (hr.kept0 hgi hB) (Nat.lt_trans hmk hlt)
              injection e with e
              injection e' with e'
              subst e e'
              by_cases hsame : ps[m] = ps[k]
              · have hv := vp_twice hlt hmk hsame
                have HV := Lib.hid hv
                have hq : ∀ w : World, (binOp .eql 96 (.agg #[.int .i64 ps[m].1, .int .i64 ps[m].2]) (.agg #[.int .i64 ps[k].1, .int .i64 ps[k].2])).run Try.prog w = .ok (.bool true) w := fun w => by
                  rw [run_eq_place, hsame]; simp
                clear hv hsame
                go_wp2
                go_quiet (fail)
                go_wp2
                go_ret
                exact ⟨ret_bool HV.out.symm, hgi.trans (gb_drewN _ _ _)⟩
              · have hq : ∀ w : World, (binOp .eql 96 (.agg #[.int .i64 ps[m].1, .int .i64 ps[m].2]) (.agg #[.int .i64 ps[k].1, .int .i64 ps[k].2])).run Try.prog w = .ok (.bool false) w := fun w => by
                  rw [run_eq_place]
                  congr 2
                  apply Bool.eq_false_iff.2
                  intro h
                  simp only [Bool.and_eq_true, beq_iff_eq] at h
                  exact hsame (Prod.ext h.1 h.2)
                have HN := Lib.hid hsame
                clear hsame
                go_wp2
                go_quiet (fail)
                go_wp2
                go_roundw
                case rel =>
                  refine ⟨m + 1, by omega, by go_num, fun i hi hlt' => ?_, hgi.trans (gb_drewN _ _ _)⟩
                  rcases Nat.lt_succ_iff_lt_or_eq.1 hlt' with h' | rfl
                  · exact hne i hi h'
                  · exact HN.out
                case measure => simp [intOf]; omega
            · obtain rfl : m = k := by omega
              have hp' := hpre.succ hlt hok fun j hj => hne j (by omega) hj
              go_wp2
              go_roundw
              case rel => exact ⟨m + 1, by omega, by go_num, hp', hgi⟩
              case measure => simp [intOf]; omega
        · have hok' : okB ps[k].1 ps[k].2 = false := by simpa using hok
          have hv := vp_bad hlt hok'
          have HV := Lib.hid hv
          clear hv hok
          go_wp2_with fail
          go_ret
          exact ⟨ret_bool HV.out.symm, hg.trans hg1⟩
      · obtain rfl : k = ps.length := by omega
        have hv := hpre.valid (by omega) (by omega)
        have HV := Lib.hid hv
        clear hv
        go_wp2
        go_ret
        exact ⟨ret_bool HV.out.symm, hg⟩

end Go.Proofs.Ytbefoiikbbjjfaa.places

namespace Go.Proofs.Ytbefoiikbbjjfaa.placeSet
open Go.ChangeShapes Go.WideShapes Go.ChangeAt Go.RowKit
open Go.ChangeMaps (open_string shut_string)
set_option linter.unusedVariables false
open Go Go.RowKit Go.Maps
open Go.Proofs.Ytbefoiikbbjjfaa.slc Go.Proofs.Ytbefoiikbbjjfaa.small Go.Proofs.Ytbefoiikbbjjfaa.opens Go.Proofs.Ytbefoiikbbjjfaa.places

theorem laid : laidOutB Try.prog = true := by kernel_rfl
theorem lawK : Keyed Try.prog 96 := Keyed.of_law (deep_law_laid laid (m := 3) (by decide) (of_decide_eq_true (by kernel_rfl)) (by kernel_rfl) (by rw [Try.underlying96]))
theorem formed_pl (x y : Int) : (Value.agg #[.int .i64 x, .int .i64 y]).formed Try.prog 96 = true := by
  have hc : Try.prog.cellsOf 96 = 2 := by kernel_rfl
  simp [Value.formed, Try.underlying96, hc]
theorem key_pl (x y : Int) (w : World) (wx : (Lit.int .i64 x).wf = true) (wy : (Lit.int .i64 y).wf = true) : ∃ l, keyOf Try.prog 96 (.agg #[.int .i64 x, .int .i64 y]) = some l :=
  ⟨_, (keyOf_asKey (H := Unit) (enc := fun _ => ()) (w := w) (base := 0) (sp := fun _ => false) (held := false) (by kernel_rfl) (by rw [Try.underlying96]) (formed_pl x y)
    (shut_pair Try.underlying96 (by kernel_rfl) (by kernel_rfl) Try.underlying2 Try.underlying2 wx wy)).1⟩

/-- Block b is a set of places, kept as a map to true. -/
def PSet (w : World) (b n : Nat) (S : List (Int × Int)) : Prop :=
  ∃ D : DataW Unit, w.ownsMap Try.prog 96 (plainElem Try.prog 4) b n D ∧ IsMap D ∧
    ∀ x y l, keyOf Try.prog 96 (.agg #[.int .i64 x, .int .i64 y]) = some l → D.atKey l (.lit (.bool false)) = .lit (.bool (decide ((x, y) ∈ S)))
theorem plain_bool_inv {v : Value} {z : DataW Unit × List MemPlace} (h : plainElem Try.prog 4 v = some z) : ∃ c, v = .bool c ∧ z = (.lit (.bool c), []) := by
  have hu := Try.underlying4
  revert hu h
  generalize Try.prog = P
  intro h hu
  unfold plainElem at h
  rw [hu] at h
  cases v <;> simp at h
  exact ⟨_, rfl, h.symm⟩
theorem PSet.made (w : World) : PSet (w.alloc (.map #[] 0)) w.heap.size 0 [] :=
  ⟨_, World.ownsMap_made w _ _ _, isMap_empty, fun x y l _ => by rfl⟩
theorem PSet.kept {w w' : World} {b n : Nat} {S : List (Int × Int)} (h : PSet w b n S) (hg : w.grownBy w' none) : PSet w' b n S := by
  obtain ⟨D, ho, hm, hD⟩ := h
  exact ⟨D, ho.kept hg (by simp), hm, hD⟩
theorem PSet.lookup {w : World} {b n : Nat} {S : List (Int × Int)} (h : PSet w b n S) (x y : Int) (wx : (Lit.int .i64 x).wf = true) (wy : (Lit.int .i64 y).wf = true) :
    (Instr.lookup 209 (.map (some b)) (.agg #[.int .i64 x, .int .i64 y]) false).run Try.prog w = .ok (.bool (decide ((x, y) ∈ S))) w := by
  obtain ⟨D, ho, hm, hD⟩ := h
  obtain ⟨l, hl⟩ := key_pl x y w wx wy
  obtain ⟨v, ps, hrun, hv⟩ := ho.lookup lawK Try.underlying209 (z := .bool false) (by kernel_rfl) (plainElem_bool Try.underlying4 false) hl
  rw [hD x y l hl] at hv
  obtain ⟨c, rfl, hz⟩ := plain_bool_inv hv
  simp only [Prod.mk.injEq, DataW.lit.injEq, Lit.bool.injEq] at hz
  rw [hrun, hz.1]
theorem PSet.update {w : World} {b n : Nat} {S : List (Int × Int)} (h : PSet w b n S) (hn : n < maxLen) (x y : Int) (wx : (Lit.int .i64 x).wf = true) (wy : (Lit.int .i64 y).wf = true) :
    ∃ w', (Instr.mapUpdate 209 (.map (some b)) (.agg #[.int .i64 x, .int .i64 y]) (.bool true)).run Try.prog w = .ok () w' ∧ PSet w' b (n + 1) (S ++ [(x, y)]) ∧ w.grownBy w' (some b) := by
  obtain ⟨D, ho, hm, hD⟩ := h
  obtain ⟨l, hl⟩ := key_pl x y w wx wy
  obtain ⟨w', hrun, ho', hg⟩ := ho.update lawK Try.underlying209 hn hl (plainElem_bool Try.underlying4 true)
  refine ⟨w', hrun, ⟨_, ho', hm.put _ _, fun x' y' l' hl' => ?_⟩, hg⟩
  by_cases he : l' = l
  · subst he
    have e := lawK.inj hl hl'
    simp only [Value.agg.injEq, Array.mk.injEq, List.cons.injEq, Value.int.injEq, true_and, and_true] at e
    obtain ⟨rfl, rfl⟩ := e
    exact (atKey_put_same hm (lawK.key hl) _ _).trans (by rw [decide_eq_true (show (x, y) ∈ S ++ [(x, y)] by simp)])
  · have hne : (x', y') ≠ (x, y) := by
      intro e
      injection e with e1 e2
      subst e1 e2
      rw [hl] at hl'
      injection hl' with e
      exact he e.symm
    have hb : decide ((x', y') ∈ S) = decide ((x', y') ∈ S ++ [(x, y)]) := by simp [hne]
    exact (atKey_put_other he _ _).trans ((hD x' y' l' hl').trans (by rw [hb]))

theorem pre_mem {ps : List (Int × Int)} {k : Nat} (hk : k < ps.length) : (ps[k] ∈ ps.take k) ↔ ∃ (i : Nat) (hi : i < k), ps[i] = ps[k] := by
  rw [List.mem_take_iff_getElem]
  constructor
  · rintro ⟨i, hi, e⟩; exact ⟨i, by omega, e⟩
  · rintro ⟨i, hi, e⟩; exact ⟨i, by omega, e⟩
theorem ok_wf {x y : Int} (h : okB x y = true) : (Lit.int .i64 x).wf = true ∧ (Lit.int .i64 y).wf = true := by
  obtain ⟨h1, h2, h3, h4⟩ := ok_yes h
  exact ⟨WalkArith.wf_i64 (by omega), WalkArith.wf_i64 (by omega)⟩

theorem make_hint (w : World) (n : Int) : (Instr.makeMap 209 (some (.int .i64 n))).run Try.prog w = .ok (.map (some w.heap.size)) (w.alloc (.map #[] 0)) := by
  simp only [Instr.makeMap, Sem.run_bind, run_underlying Try.underlying209, Result.andThen_ok]
  rfl

set_option maxHeartbeats 800000 in
set_option maxRecDepth 100000 in
theorem is_impl (A : Option Addr) (c B : Nat) (ps : List (Int × Int)) (w : World) (hm : ps.length ≤ 9223372036854775807) (hr : Rd w B A (ps.length * 2) (pcell ps)) (hB : B ≤ w.heap.size) :
    Calls Try.prog 118 #[.slice A ps.length c] w fun e w' => e = .returned (.bool (vp ps)) ∧ w.grownBy w' none := by
  by_cases hl : (ps.length : Int) < 1 ∨ 16 < (ps.length : Int)
  · have hv := vp_len (ps := ps) (by omega)
    have HV := Lib.hid hv
    clear hv
    go_enter Try.func118, Try.ntmps118
    go_wp2_with (go_at_call 82; refine (count_no _ _ hl).mono ?_; rintro e w' ⟨rfl, rfl⟩)
    go_ret
    exact ⟨ret_bool HV.out.symm, World.grownBy.refl _ _⟩
  · have h1 : 1 ≤ (ps.length : Int) := by omega
    have h2 : (ps.length : Int) ≤ 16 := by omega
    clear hl
    have hmm := make_hint
    go_enter Try.func118, Try.ntmps118
    go_wp2_with (go_at_call 82; refine (count_yes _ _ h1 h2).mono ?_; rintro e w' ⟨rfl, rfl⟩)
    clear hmm
    go_loopw [15] (fun i wr => ∃ k : Nat, k ≤ ps.length ∧ i = .int .i64 k ∧ Pre ps k ∧ PSet wr w.heap.size k (ps.take k) ∧ w.grownBy wr none) (fun i _ => ps.length - (intOf i).toNat)
    case atStart => exact ⟨0, Nat.zero_le _, rfl, Pre.zero _, PSet.made w, World.grownBy_alloc _ _ _⟩
    case round =>
      obtain ⟨k, hk, rfl, hpre, hset, hg⟩ := hrel
      by_cases hlt : k < ps.length
      · obtain ⟨ad, rfl, hab, hx, hy⟩ := Rd.pair (hr.kept0 hg hB) hlt
        go_wp2_with fail
        refine (place_impl _ _ _).mono ?_
        rintro e w1 ⟨rfl, hg1⟩
        have hc0 := (boxed2 hg1).1
        have hc1 := (boxed2 hg1).2
        have hgn := (World.grownBy_alloc _ _ _).trans hg1
        cases hok : okB ps[k].1 ps[k].2
        · have hv := vp_bad hlt hok
          have HV := Lib.hid hv
          clear hv hok
          go_wp2_with fail
          go_ret
          exact ⟨ret_bool HV.out.symm, hg.trans hgn⟩
        · have hset1 := hset.kept hgn
          obtain ⟨wx, wy⟩ := ok_wf hok
          have hlook := hset1.lookup _ _ wx wy
          by_cases hin : (ps[k].1, ps[k].2) ∈ ps.take k
          · rw [decide_eq_true hin] at hlook
            have hv : vp ps = false := by
              obtain ⟨i, hi, e⟩ := (pre_mem hlt).1 hin
              exact vp_twice hlt hi e
            have HV := Lib.hid hv
            clear hv hok hin wx wy
            go_wp2_with fail
            go_ret
            exact ⟨ret_bool HV.out.symm, hg.trans hgn⟩
          · rw [decide_eq_false hin] at hlook
            obtain ⟨w2, hrun, hs2, hg2⟩ := hset1.update (by unfold maxLen; omega) _ _ wx wy
            have hp' := hpre.succ hlt hok fun j hj e => hin ((pre_mem hlt).2 ⟨j, hj, e⟩)
            have htake : ps.take (k + 1) = ps.take k ++ [(ps[k].1, ps[k].2)] := List.take_succ_eq_append_getElem hlt
            have hgo := gb_new (hg.trans hgn) hg2 (by intro g e; injection e with e; omega)
            have HT := Lib.hid htake
            clear htake hok hin wx wy hg2
            go_wp2_with fail
            go_roundw
            case rel => exact ⟨k + 1, by omega, by go_num, hp', by rw [HT.out]; exact hs2, hgo⟩
            case measure => simp [intOf]; omega
      · obtain rfl : k = ps.length := by omega
        have hv := hpre.valid (by omega) (by omega)
        have HV := Lib.hid hv
        clear hv
        go_wp2
        go_ret
        exact ⟨ret_bool HV.out.symm, hg⟩

end Go.Proofs.Ytbefoiikbbjjfaa.placeSet

namespace Go.Proofs.Ytbefoiikbbjjfaa.listP
open Go.ChangeShapes Go.WideShapes Go.ChangeAt Go.RowKit
open Go.ChangeMaps (open_string shut_string)
set_option linter.unusedVariables false
open Go Go.RowKit
open Go.Proofs.Ytbefoiikbbjjfaa.slc Go.Proofs.Ytbefoiikbbjjfaa.small Go.Proofs.Ytbefoiikbbjjfaa.opens

theorem infoP : (Try.prog.info? 96).map (fun i => (i.zero, i.size, i.bytes)) = some (some (.agg #[.int .i64 0, .int .i64 0]), 2, 16) := by kernel_rfl

theorem Rd.two {w : World} {B n : Nat} {A : Option Addr} {f : Nat → Value} (h : Rd w B A (n * 2) f) (hi : Ints f (n * 2)) {k : Nat} (hk : k < n) :
    ∃ ad x y, A = some ad ∧ ad.block < B ∧ f (k * 2) = .int .i64 x ∧ f (k * 2 + 1) = .int .i64 y ∧ w.cell? (ad.add (k * 2)) = some (.int .i64 x) ∧ w.cell? ⟨(ad.add (k * 2)).block, (ad.add (k * 2)).off + 1, none⟩ = some (.int .i64 y) := by
  obtain ⟨ad, e, hb, hc⟩ := h (by omega)
  obtain ⟨x, hx⟩ := hi (k * 2) (by omega)
  obtain ⟨y, hy⟩ := hi (k * 2 + 1) (by omega)
  exact ⟨ad, x, y, e, hb, hx, hy, (hc _ (by omega)).trans (by rw [hx]), by rw [add_next]; exact (hc _ (by omega)).trans (by rw [hy])⟩

theorem eq_place : True := trivial

set_option maxHeartbeats 400000 in
set_option maxRecDepth 100000 in
theorem eqP_true : True := trivial

set_option maxHeartbeats 400000 in
theorem markP : True := trivial

set_option maxHeartbeats 400000 in
theorem heldP : True := trivial

theorem markP1 : True := trivial
theorem heldP1 : True := trivial

theorem szP : True := trivial
theorem szP_no : True := trivial

theorem made_places (n : Nat) : (madeCells (Value.agg #[.int .i64 0, .int .i64 0]).cells (n * 2)).toList = lst (fun _ => .int .i64 0) (n * 2) := by
  apply List.ext_getElem?
  intro i
  by_cases hi : i < n * 2
  · have : (Value.agg #[.int .i64 0, .int .i64 0]).cells = #[.int .i64 0, .int .i64 0] := rfl
    rw [this]
    have h2 : i % 2 = 0 ∨ i % 2 = 1 := by omega
    rcases h2 with h2 | h2 <;> simp [madeCells, lst, hi, h2]
  · simp [madeCells, lst, hi]

set_option maxHeartbeats 400000 in
set_option maxRecDepth 100000 in
theorem toP : True := trivial

/-- A function answers with a list of places of its own, and a bool. -/
def GivesP (F : Nat) (args : Array Value) (ps : List (Int × Int)) (ok : Bool) : Prop :=
  ∀ w : World, Calls Try.prog F args w fun e w' => ∃ A c, e = .returned (.tuple #[.slice A ps.length c, .bool ok]) ∧ w'.ownsRow w.heap.size 96 2 (.slice A ps.length c) ps.length (lst (pcell ps) (ps.length * 2)) ∧ w.grownBy w' none
theorem pcell_snoc (ps : List (Int × Int)) (x y : Int) : lst (pcell (ps ++ [(x, y)])) ((ps ++ [(x, y)]).length * 2) = lst (pcell ps) (ps.length * 2) ++ [.int .i64 x, .int .i64 y] := by
  apply List.ext_getElem?
  intro i
  by_cases h1 : i < ps.length * 2
  · rw [List.getElem?_append_left (by rw [lst_len]; exact h1), lst_get _ _ _ h1, lst_get _ _ _ (by simp; omega)]
    unfold pcell
    have hi : i / 2 < ps.length := by omega
    simp [List.getD, List.getElem?_append_left hi]
  · rw [List.getElem?_append_right (by rw [lst_len]; omega), lst_len]
    by_cases h2 : i < (ps.length + 1) * 2
    · rw [lst_get _ _ _ (by simpa using h2)]
      have h3 : i = ps.length * 2 ∨ i = ps.length * 2 + 1 := by omega
      have e2 : (ps.length * 2 + 1) / 2 = ps.length := by omega
      rcases h3 with rfl | rfl
      · simp [pcell]
      · simp [pcell, e2, Nat.add_mod]
    · have h3 : ¬ i < (ps ++ [(x, y)]).length * 2 := by simpa using h2
      rw [List.getElem?_eq_none (by rw [lst_len]; omega), List.getElem?_eq_none (by simp; omega)]
theorem pair_one (x y : Int) : ∀ u ∈ [Value.int .i64 x, Value.int .i64 y], u.oneCell' = true := by
  intro u hu
  have : u = .int .i64 x ∨ u = .int .i64 y := by simpa using hu
  rcases this with rfl | rfl <;> rfl
theorem build_place (w : World) (x y : Int) : (Instr.build 96 #[(0, .int .i64 x), (1, .int .i64 y)]).run Try.prog w = .ok (.agg #[.int .i64 x, .int .i64 y]) w := run_build w 96 _ _ (by kernel_rfl)

end Go.Proofs.Ytbefoiikbbjjfaa.listP
