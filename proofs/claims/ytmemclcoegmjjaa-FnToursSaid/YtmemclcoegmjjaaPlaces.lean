/- Places: whether they are valid, by comparisons and by a set. -/
import Derived.Test.YtmemclcoegmjjaaRows
import Derived.Test.YtmemclcoegmjjaaSlc
import Derived.Test.YtmemclcoegmjjaaSmall
import Derived.Test.YtmemclcoegmjjaaOpens
import Derived.WalkKit
import Derived.ProofKit
import Derived.OpenShut
import Derived.ShutString
import Derived.ChangeOld
import Derived.Below
import Derived.Lib.Hide
import Derived.BigQuiet
import Derived.Deep.QuietTactic
import Derived.WalkLawsBesides
import Derived.Outline
import Derived.Deep.QuietTactic
import Derived.BigQuiet
import Derived.Deep.LoopGhost
import Derived.Laws.StructEq
import Derived.Maps.OwnOps
import Derived.Maps.Views
import Derived.MapViews
import Derived.DeepKeys4
namespace Go.Proofs.Ytmemclcoegmjjaa.places
open Go.ChangeShapes Go.WideShapes Go.ChangeAt Go.RowKit
open Go.ChangeMaps (open_string shut_string)
set_option linter.unusedVariables false
open Go Go.RowKit
open Go.Proofs.Ytmemclcoegmjjaa.slc Go.Proofs.Ytmemclcoegmjjaa.small Go.Proofs.Ytmemclcoegmjjaa.opens

/-- A place's parts are within their bounds. -/
def okB (x y : Int) : Bool := decide (-4096 ≤ x ∧ x ≤ 4096 ∧ -4096 ≤ y ∧ y ≤ 4096)
theorem ok_yes {x y : Int} (h : okB x y = true) : -4096 ≤ x ∧ x ≤ 4096 ∧ -4096 ≤ y ∧ y ≤ 4096 := of_decide_eq_true h
theorem ok_no {x y : Int} (h : okB x y = false) : (x < -4096 ∨ 4096 < x) ∨ ((-4096 ≤ x ∧ x ≤ 4096) ∧ (y < -4096 ∨ 4096 < y)) := by
  have := of_decide_eq_false h
  omega

theorem offset_yes (n : Int) (w : World) (h : -4096 ≤ n) (h2 : n ≤ 4096) :
    Calls Try.prog 84 #[.int .i64 n] w fun e w' => e = .returned (.bool true) ∧ w = w' := by
  go_enter Try.func84, Try.ntmps84
  go_wp2_with (go_at_call 88; refine (within_yes _ _ _ _ h h2).mono ?_; rintro e w' ⟨rfl, rfl⟩)
  go_ret
  exact ⟨rfl, rfl⟩
theorem offset_no (n : Int) (w : World) (h : n < -4096 ∨ 4096 < n) :
    Calls Try.prog 84 #[.int .i64 n] w fun e w' => e = .returned (.bool false) ∧ w = w' := by
  go_enter Try.func84, Try.ntmps84
  go_wp2_with (go_at_call 88; refine (within_no _ _ _ _ h).mono ?_; rintro e w' ⟨rfl, rfl⟩)
  go_ret
  exact ⟨rfl, rfl⟩
theorem count_yes (n : Int) (w : World) (h : 1 ≤ n) (h2 : n ≤ 16) :
    Calls Try.prog 83 #[.int .i64 n] w fun e w' => e = .returned (.bool true) ∧ w = w' := by
  go_enter Try.func83, Try.ntmps83
  go_wp2_with (go_at_call 88; refine (within_yes _ _ _ _ h h2).mono ?_; rintro e w' ⟨rfl, rfl⟩)
  go_ret
  exact ⟨rfl, rfl⟩
theorem count_no (n : Int) (w : World) (h : n < 1 ∨ 16 < n) :
    Calls Try.prog 83 #[.int .i64 n] w fun e w' => e = .returned (.bool false) ∧ w = w' := by
  go_enter Try.func83, Try.ntmps83
  go_wp2_with (go_at_call 88; refine (within_no _ _ _ _ h).mono ?_; rintro e w' ⟨rfl, rfl⟩)
  go_ret
  exact ⟨rfl, rfl⟩

set_option maxHeartbeats 400000 in
theorem place_spec (x y : Int) (w : World) :
    Calls Try.prog 132 #[.agg #[.int .i64 x, .int .i64 y]] w fun e w' => e = .returned (.bool (okB x y)) ∧ w.grownBy w' none := by
  cases hd : okB x y
  · rcases ok_no hd with h | ⟨⟨h1, h2⟩, h⟩
    · clear hd
      go_enter Try.func132, Try.ntmps132
      go_wp2_with (go_at_call 122; refine (in_no _ _ _ _ h).mono ?_; rintro e w' ⟨rfl, rfl⟩)
      go_ret
      exact ⟨rfl, World.grownBy_alloc _ _ _⟩
    · clear hd
      go_enter Try.func132, Try.ntmps132
      go_wp2_with (fail)
      refine (in_yes _ _ _ _ (by omega) (by omega)).mono ?_
      rintro e w' ⟨rfl, rfl⟩
      go_wp2_with (go_at_call 122; refine (in_no _ _ _ _ h).mono ?_; rintro e w' ⟨rfl, rfl⟩)
      go_ret
      exact ⟨rfl, World.grownBy_alloc _ _ _⟩
  · obtain ⟨h1, h2, h3, h4⟩ := ok_yes hd
    clear hd
    go_enter Try.func132, Try.ntmps132
    go_wp2_with (go_at_call 122; refine (in_yes _ _ _ _ (by omega) (by omega)).mono ?_; rintro e w' ⟨rfl, rfl⟩)
    go_ret
    exact ⟨rfl, World.grownBy_alloc _ _ _⟩

set_option maxHeartbeats 400000 in
theorem place_impl (x y : Int) (w : World) :
    Calls Try.prog 134 #[.agg #[.int .i64 x, .int .i64 y]] w fun e w' => e = .returned (.bool (okB x y)) ∧ w.grownBy w' none := by
  cases hd : okB x y
  · rcases ok_no hd with h | ⟨⟨h1, h2⟩, h⟩
    · clear hd
      go_enter Try.func134, Try.ntmps134
      go_wp2_with (go_at_call 84; refine (offset_no _ _ h).mono ?_; rintro e w' ⟨rfl, rfl⟩)
      go_ret
      exact ⟨rfl, World.grownBy_alloc _ _ _⟩
    · clear hd
      go_enter Try.func134, Try.ntmps134
      go_wp2_with (fail)
      refine (offset_yes _ _ (by omega) (by omega)).mono ?_
      rintro e w' ⟨rfl, rfl⟩
      go_wp2_with (go_at_call 84; refine (offset_no _ _ h).mono ?_; rintro e w' ⟨rfl, rfl⟩)
      go_ret
      exact ⟨rfl, World.grownBy_alloc _ _ _⟩
  · obtain ⟨h1, h2, h3, h4⟩ := ok_yes hd
    clear hd
    go_enter Try.func134, Try.ntmps134
    go_wp2_with (go_at_call 84; refine (offset_yes _ _ (by omega) (by omega)).mono ?_; rintro e w' ⟨rfl, rfl⟩)
    go_ret
    exact ⟨rfl, World.grownBy_alloc _ _ _⟩

/-- Places are valid. -/
def vp (ps : List (Int × Int)) : Bool := decide (1 ≤ ps.length ∧ ps.length ≤ 16 ∧ (∀ p ∈ ps, okB p.1 p.2 = true) ∧ ps.Nodup)
theorem vp_mk {ps : List (Int × Int)} (h1 : 1 ≤ ps.length) (h2 : ps.length ≤ 16) (h3 : ∀ p ∈ ps, okB p.1 p.2 = true) (h4 : ps.Nodup) : vp ps = true := decide_eq_true ⟨h1, h2, h3, h4⟩
theorem vp_yes {ps : List (Int × Int)} (h : vp ps = true) : 1 ≤ ps.length ∧ ps.length ≤ 16 ∧ (∀ p ∈ ps, okB p.1 p.2 = true) ∧ ps.Nodup := of_decide_eq_true h
theorem vp_len {ps : List (Int × Int)} (h : ps.length < 1 ∨ 16 < ps.length) : vp ps = false := decide_eq_false (fun h' => by omega)
theorem vp_bad {ps : List (Int × Int)} {k : Nat} (hk : k < ps.length) (h : okB ps[k].1 ps[k].2 = false) : vp ps = false :=
  decide_eq_false (fun h' => by have := h'.2.2.1 _ (List.getElem_mem hk); rw [h] at this; cases this)
theorem vp_twice {ps : List (Int × Int)} {k j : Nat} (hk : k < ps.length) (hj : j < k) (h : ps[j] = ps[k]) : vp ps = false :=
  decide_eq_false (fun h' => by have := (List.pairwise_iff_getElem.1 h'.2.2.2) j k (by omega) hk hj; exact this h)

/-- The first k places are valid ones. -/
def Pre (ps : List (Int × Int)) (k : Nat) : Prop := ∀ i (hi : i < ps.length), i < k → okB ps[i].1 ps[i].2 = true ∧ ∀ j (hj : j < i), ps[j] ≠ ps[i]
theorem Pre.zero (ps : List (Int × Int)) : Pre ps 0 := fun i _ h => absurd h (by omega)
theorem Pre.succ {ps : List (Int × Int)} {k : Nat} (h : Pre ps k) (hk : k < ps.length) (h1 : okB ps[k].1 ps[k].2 = true) (h2 : ∀ j (hj : j < k), ps[j] ≠ ps[k]) : Pre ps (k + 1) := by
  intro i hi hlt
  rcases Nat.lt_succ_iff_lt_or_eq.1 hlt with h' | rfl
  · exact h i hi h'
  · exact ⟨h1, h2⟩
theorem Pre.valid {ps : List (Int × Int)} (h : Pre ps ps.length) (h1 : 1 ≤ ps.length) (h2 : ps.length ≤ 16) : vp ps = true := by
  refine vp_mk h1 h2 (fun p hp => ?_) (List.pairwise_iff_getElem.2 fun i j hi hj hij => (h j hj hj).2 i hij)
  obtain ⟨i, hi, rfl⟩ := List.mem_iff_getElem.1 hp
  exact (h i hi hi).1

/-- The two cells of a place. -/
theorem pcell_at (ps : List (Int × Int)) (k : Nat) (hk : k < ps.length) : pcell ps (k * 2) = .int .i64 ps[k].1 ∧ pcell ps (k * 2 + 1) = .int .i64 ps[k].2 := by
  unfold pcell
  have e1 : k * 2 / 2 = k := by omega
  have e2 : (k * 2 + 1) / 2 = k := by omega
  rw [if_pos (by omega), if_neg (by omega), e1, e2]
  simp [List.getD, hk]
theorem Rd.pair {w : World} {B : Nat} {A : Option Addr} {ps : List (Int × Int)} (h : Rd w B A (ps.length * 2) (pcell ps)) {k : Nat} (hk : k < ps.length) :
    ∃ ad, A = some ad ∧ ad.block < B ∧ w.cell? (ad.add (k * 2)) = some (.int .i64 ps[k].1) ∧ w.cell? ⟨(ad.add (k * 2)).block, (ad.add (k * 2)).off + 1, none⟩ = some (.int .i64 ps[k].2) := by
  obtain ⟨ad, e, hb, hc⟩ := h (by omega)
  have hp := pcell_at ps k hk
  exact ⟨ad, e, hb, (hc _ (by omega)).trans (by rw [hp.1]), by rw [add_next]; exact (hc _ (by omega)).trans (by rw [hp.2])⟩

theorem run_eq_place (w : World) (x y a b : Int) : (binOp .eql 51 (.agg #[.int .i64 x, .int .i64 y]) (.agg #[.int .i64 a, .int .i64 b])).run Try.prog w = .ok (.bool (x == a && y == b)) w := by
  have e : ∀ w : World, (Op.equalIn 10000 51 (.agg #[.int .i64 x, .int .i64 y]) (.agg #[.int .i64 a, .int .i64 b])).run Try.prog w = .ok (x == a && y == b) w := by
    intro w
    rw [run_equalIn_agg (P := Try.prog) w 9999 51 _ _ (by kernel_rfl) (by kernel_rfl)]
    simp only [Program.fieldsOf, Try.underlying51]
    simp [Op.eqFields, go_sem, Try.underlying2, part]
    by_cases h1 : x = a <;> by_cases h2 : y = b <;> simp [h1, h2]
  rw [run_eql_struct, e]
  rfl

set_option maxHeartbeats 800000 in
set_option maxRecDepth 100000 in
theorem is_spec (A : Option Addr) (c B : Nat) (ps : List (Int × Int)) (w : World) (hm : ps.length ≤ 9223372036854775807) (hr : Rd w B A (ps.length * 2) (pcell ps)) (hB : B ≤ w.heap.size) :
    Calls Try.prog 68 #[.slice A ps.length c] w fun e w' => e = .returned (.bool (vp ps)) ∧ w.grownBy w' none := by
  by_cases hl : (ps.length : Int) < 1 ∨ 16 < (ps.length : Int)
  · have hv := vp_len (ps := ps) (by omega)
    have HV := Lib.hid hv
    clear hv
    go_enter Try.func68, Try.ntmps68
    go_wp2_with (go_at_call 122; refine (in_no _ _ _ _ hl).mono ?_; rintro e w' ⟨rfl, rfl⟩)
    go_ret
    exact ⟨ret_bool HV.out.symm, World.grownBy.refl _ _⟩
  · have h1 : 1 ≤ (ps.length : Int) := by omega
    have h2 : (ps.length : Int) ≤ 16 := by omega
    clear hl
    go_enter Try.func68, Try.ntmps68
    go_wp2_with (go_at_call 122; refine (in_yes _ _ _ _ h1 h2).mono ?_; rintro e w' ⟨rfl, rfl⟩)
    go_loopw [3, 4] (fun i _ wr => ∃ k : Nat, k ≤ ps.length ∧ i = .int .i64 k ∧ Pre ps k ∧ w.grownBy wr none) (fun i _ _ => ps.length - (intOf i).toNat)
    case atStart => exact ⟨0, Nat.zero_le _, rfl, Pre.zero _, World.grownBy.refl _ _⟩
    case round =>
      obtain ⟨k, hk, rfl, hpre, hg⟩ := hrel
      by_cases hlt : k < ps.length
      · obtain ⟨ad, rfl, hab, hx, hy⟩ := Rd.pair (hr.kept0 hg hB) hlt
        have hadd := add_next ad (k * 2)
        have HA := Lib.hid hadd
        clear hadd
        go_wp2_with fail
        refine (place_spec _ _ _).mono ?_
        rintro e w1 ⟨rfl, hg1⟩
        by_cases hok : okB ps[k].1 ps[k].2 = true
        · have hg2 := hg.trans hg1
          go_wp2_with fail
          clear hx hy hg hg1
          obtain ⟨wo, rfl⟩ : ∃ wo : World, wo = w1 := ⟨_, rfl⟩
          go_loopw [4] (fun j wi => ∃ m : Nat, m ≤ k ∧ j = .int .i64 m ∧ (∀ i (hi : i < ps.length), i < m → ps[i] ≠ ps[k]) ∧ w.grownBy wi none) (fun j _ => k - (intOf j).toNat)
          case atStart => exact ⟨0, Nat.zero_le _, rfl, fun i _ h => absurd h (by omega), hg2⟩
          case round =>
            obtain ⟨m, hm', rfl, hne, hgi⟩ := hrel
            by_cases hmk : m < k
            · obtain ⟨bd, e, _, hx1, hy1⟩ := Rd.pair (hr.kept0 hgi hB) hlt
              obtain ⟨bd', e', _, hx2, hy2⟩ := Rd.pair (hr.kept0 hgi hB) (Nat.lt_trans hmk hlt)
              injection e with e
              injection e' with e'
              subst e e'
              by_cases hsame : ps[m] = ps[k]
              · have hv := vp_twice hlt hmk hsame
                have HV := Lib.hid hv
                have hq : ∀ w : World, (binOp .eql 51 (.agg #[.int .i64 ps[m].1, .int .i64 ps[m].2]) (.agg #[.int .i64 ps[k].1, .int .i64 ps[k].2])).run Try.prog w = .ok (.bool true) w := fun w => by
                  rw [run_eq_place, hsame]; simp
                clear hv hsame
                go_wp2
                go_quiet (fail)
                go_wp2
                go_ret
                exact ⟨ret_bool HV.out.symm, hgi.trans (gb_drewN _ _ _)⟩
              · have hq : ∀ w : World, (binOp .eql 51 (.agg #[.int .i64 ps[m].1, .int .i64 ps[m].2]) (.agg #[.int .i64 ps[k].1, .int .i64 ps[k].2])).run Try.prog w = .ok (.bool false) w := fun w => by
                  rw [run_eq_place]
                  congr 2
                  apply Bool.eq_false_iff.2
                  intro h
                  simp only [Bool.and_eq_true, beq_iff_eq] at h
                  exact hsame (Prod.ext h.1 h.2)
                have HN := Lib.hid hsame
                clear hsame
                go_wp2
                go_quiet (fail)
                go_wp2
                go_roundw
                case rel =>
                  refine ⟨m + 1, by omega, by go_num, fun i hi hlt' => ?_, hgi.trans (gb_drewN _ _ _)⟩
                  rcases Nat.lt_succ_iff_lt_or_eq.1 hlt' with h' | rfl
                  · exact hne i hi h'
                  · exact HN.out
                case measure => simp [intOf]; omega
            · obtain rfl : m = k := by omega
              have hp' := hpre.succ hlt hok fun j hj => hne j (by omega) hj
              go_wp2
              go_roundw
              case rel => exact ⟨m + 1, by omega, by go_num, hp', hgi⟩
              case measure => simp [intOf]; omega
        · have hok' : okB ps[k].1 ps[k].2 = false := by simpa using hok
          have hv := vp_bad hlt hok'
          have HV := Lib.hid hv
          clear hv hok
          go_wp2_with fail
          go_ret
          exact ⟨ret_bool HV.out.symm, hg.trans hg1⟩
      · obtain rfl : k = ps.length := by omega
        have hv := hpre.valid (by omega) (by omega)
        have HV := Lib.hid hv
        clear hv
        go_wp2
        go_ret
        exact ⟨ret_bool HV.out.symm, hg⟩

end Go.Proofs.Ytmemclcoegmjjaa.places
