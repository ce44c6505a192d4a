/- Marks: whether they are valid. -/
import Derived.Test.YtkjmlpdbnnmlhabRows
import Derived.Test.YtkjmlpdbnnmlhabSlc
import Derived.Test.YtkjmlpdbnnmlhabSmall
import Derived.Test.YtkjmlpdbnnmlhabListI
import Derived.WalkKit
import Derived.ProofKit
import Derived.OpenShut
import Derived.ShutString
import Derived.ChangeOld
import Derived.Below
import Derived.Lib.Hide
import Derived.BigQuiet
import Derived.Deep.QuietTactic
import Derived.WalkLawsBesides
import Derived.Outline
import Derived.Deep.QuietTactic
import Derived.BigQuiet
import Derived.Deep.LoopGhost
namespace Go.Proofs.Ytkjmlpdbnnmlhab.marks
open Go.ChangeShapes Go.WideShapes Go.ChangeAt Go.RowKit
open Go.ChangeMaps (open_string shut_string)
set_option linter.unusedVariables false
open Go Go.RowKit
open Go.Proofs.Ytkjmlpdbnnmlhab.slc Go.Proofs.Ytkjmlpdbnnmlhab.small Go.Proofs.Ytkjmlpdbnnmlhab.listI

theorem count_yes (n : Int) (w : World) (h : 1 ≤ n) (h2 : n ≤ 16) :
    Calls Try.prog 164 #[.int .i64 n] w fun e w' => e = .returned (.bool true) ∧ w = w' := by
  go_enter Try.func164, Try.ntmps164
  go_wp2_with (go_at_call 114; refine (within_yes _ _ _ _ h h2).mono ?_; rintro e w' ⟨rfl, rfl⟩)
  go_ret
  exact ⟨rfl, rfl⟩
theorem count_no (n : Int) (w : World) (h : n < 1 ∨ 16 < n) :
    Calls Try.prog 164 #[.int .i64 n] w fun e w' => e = .returned (.bool false) ∧ w = w' := by
  go_enter Try.func164, Try.ntmps164
  go_wp2_with (go_at_call 114; refine (within_no _ _ _ _ h).mono ?_; rintro e w' ⟨rfl, rfl⟩)
  go_ret
  exact ⟨rfl, rfl⟩

/-- Marks are valid. -/
def mB (xs : List Int) : Bool := decide (1 ≤ xs.length ∧ xs.length ≤ 16 ∧ (∀ x ∈ xs, 0 ≤ x ∧ x ≤ 4096) ∧ xs.Pairwise (· < ·))
theorem mB_yes {xs : List Int} (h : mB xs = true) : 1 ≤ xs.length ∧ xs.length ≤ 16 ∧ (∀ x ∈ xs, 0 ≤ x ∧ x ≤ 4096) ∧ xs.Pairwise (· < ·) := of_decide_eq_true h
theorem mB_len {xs : List Int} (h : xs.length < 1 ∨ 16 < xs.length) : mB xs = false := decide_eq_false (fun h' => by omega)
theorem mB_out {xs : List Int} {k : Nat} (hk : k < xs.length) (h : xs[k] < 0 ∨ 4096 < xs[k]) : mB xs = false :=
  decide_eq_false (fun h' => by have := h'.2.2.1 _ (List.getElem_mem hk); omega)
theorem mB_fall {xs : List Int} {k : Nat} (hk : k < xs.length) (hk0 : 0 < k) (h : xs[k] ≤ xs[k - 1]) : mB xs = false :=
  decide_eq_false (fun h' => by have := (List.pairwise_iff_getElem.1 h'.2.2.2) (k - 1) k (by omega) hk (by omega); omega)
/-- The first k marks are valid ones. -/
def PreM (xs : List Int) (k : Nat) : Prop := ∀ i (hi : i < xs.length), i < k → (0 ≤ xs[i] ∧ xs[i] ≤ 4096) ∧ (0 < i → xs[i - 1] < xs[i])
theorem PreM.zero (xs : List Int) : PreM xs 0 := fun i _ h => absurd h (by omega)
theorem PreM.succ {xs : List Int} {k : Nat} (h : PreM xs k) (hk : k < xs.length) (h1 : 0 ≤ xs[k] ∧ xs[k] ≤ 4096) (h2 : 0 < k → xs[k - 1] < xs[k]) : PreM xs (k + 1) := by
  intro i hi hlt
  rcases Nat.lt_succ_iff_lt_or_eq.1 hlt with h' | rfl
  · exact h i hi h'
  · exact ⟨h1, h2⟩
theorem PreM.valid {xs : List Int} (h : PreM xs xs.length) (h1 : 1 ≤ xs.length) (h2 : xs.length ≤ 16) : mB xs = true := by
  refine decide_eq_true ⟨h1, h2, fun x hx => ?_, List.pairwise_iff_getElem.2 ?_⟩
  · obtain ⟨i, hi, rfl⟩ := List.mem_iff_getElem.1 hx
    exact (h i hi hi).1
  · have key : ∀ (d i : Nat) (hi : i < xs.length) (hj : i + d + 1 < xs.length), xs[i] < xs[i + d + 1] := by
      intro d
      induction d with
      | zero => intro i hi hj; exact (h (i + 1) hj hj).2 (by omega)
      | succ d ih =>
        intro i hi hj
        have a := ih i hi (by omega)
        have b := (h (i + (d + 1) + 1) hj hj).2 (by omega)
        have e : i + (d + 1) + 1 - 1 = i + d + 1 := by omega
        simp only [e] at b
        omega
    intro i j hi hj hij
    obtain ⟨d, rfl⟩ := Nat.exists_eq_add_of_lt hij
    exact key d i hi hj

set_option maxHeartbeats 400000 in
set_option maxRecDepth 100000 in
theorem set_impl (A : Option Addr) (c B : Nat) (xs : List Int) (w : World) (h1 : 1 ≤ xs.length) (h2 : xs.length ≤ 16) (hr : Rd w B A xs.length (fun j => (ints xs).getD j undef)) :
    Calls Try.prog 226 #[.slice A xs.length c, .int .i64 0, .int .i64 4096] w fun e w' => e = .returned (.bool (mB xs)) ∧ w = w' := by
  go_enter Try.func226, Try.ntmps226
  go_wp2
  go_loop [11] (fun i => ∃ k : Nat, k ≤ xs.length ∧ i = .int .i64 k ∧ PreM xs k) (fun i => xs.length - (intOf i).toNat)
  case atStart => exact ⟨0, Nat.zero_le _, rfl, PreM.zero _⟩
  case round =>
    obtain ⟨k, hk, rfl, hpre⟩ := hrel
    by_cases hlt : k < xs.length
    · obtain ⟨ad, rfl, _, hc⟩ := hr.at_ hlt
      rw [ints_getD xs k hlt] at hc
      by_cases hin : xs[k] < 0 ∨ 4096 < xs[k]
      · have hv := mB_out hlt hin
        have HV := Lib.hid hv
        clear hv
        go_wp2_with (go_at_call 114; refine (within_no _ _ _ _ hin).mono ?_; rintro e w' ⟨rfl, rfl⟩)
        go_ret
        exact ⟨ret_bool HV.out.symm, rfl⟩
      · have i1 : 0 ≤ xs[k] := by omega
        have i2 : xs[k] ≤ 4096 := by omega
        clear hin
        by_cases hk0 : (k : Int) ≤ 0
        · have hp' := hpre.succ hlt ⟨i1, i2⟩ (fun h => absurd h (by omega))
          go_wp2_with (go_at_call 114; refine (within_yes _ _ _ _ i1 i2).mono ?_; rintro e w' ⟨rfl, rfl⟩)
          go_round
          case rel => exact ⟨k + 1, by omega, by go_num, hp'⟩
          case measure => simp [intOf]; omega
        · have hk1 : 0 < (k : Int) := by omega
          clear hk0
          obtain ⟨bd, e, _, hd⟩ := hr.at_ (show k - 1 < xs.length by omega)
          rw [ints_getD xs (k - 1) (by omega)] at hd
          injection e with e
          subst e
          have hkb : (k : Int) - 1 < xs.length := by omega
          by_cases hf : xs[k] ≤ xs[k - 1]
          · have hv := mB_fall hlt (by omega) hf
            have HV := Lib.hid hv
            clear hv
            go_wp2_with (go_at_call 114; refine (within_yes _ _ _ _ i1 i2).mono ?_; rintro e w' ⟨rfl, rfl⟩)
            go_ret
            exact ⟨ret_bool HV.out.symm, rfl⟩
          · have hf' : xs[k - 1] < xs[k] := by omega
            have hp' := hpre.succ hlt ⟨i1, i2⟩ (fun _ => hf')
            clear hf
            go_wp2_with (go_at_call 114; refine (within_yes _ _ _ _ i1 i2).mono ?_; rintro e w' ⟨rfl, rfl⟩)
            go_round
            case rel => exact ⟨k + 1, by omega, by go_num, hp'⟩
            case measure => simp [intOf]; omega
    · obtain rfl : k = xs.length := by omega
      have hv := hpre.valid (by omega) (by omega)
      have HV := Lib.hid hv
      clear hv
      go_wp2
      go_ret
      exact ⟨ret_bool HV.out.symm, rfl⟩

theorem are_impl : True := trivial

theorem q_in_yes (n lo hi : Int) (w : World) (h : lo ≤ n) (h2 : n ≤ hi) :
    Calls Try.prog 239 #[.int .i64 n, .int .i64 lo, .int .i64 hi] w fun e w' => e = .returned (.bool true) ∧ w' = w := (in_yes n lo hi w h h2).mono fun e w' ⟨a, b⟩ => ⟨a, b.symm⟩
theorem q_in_no (n lo hi : Int) (w : World) (h : n < lo ∨ hi < n) :
    Calls Try.prog 239 #[.int .i64 n, .int .i64 lo, .int .i64 hi] w fun e w' => e = .returned (.bool false) ∧ w' = w := (in_no n lo hi w h).mono fun e w' ⟨a, b⟩ => ⟨a, b.symm⟩

set_option maxHeartbeats 400000 in
set_option maxRecDepth 100000 in
theorem rises (A : Option Addr) (c B : Nat) (xs : List Int) (w : World) (hm : xs.length ≤ 9223372036854775807) (h1 : 1 ≤ xs.length) (h2 : xs.length ≤ 16) (hr : Rd w B A xs.length (fun j => (ints xs).getD j undef)) :
    Calls Try.prog 265 #[.slice A xs.length c, .int .i64 0, .int .i64 4096] w fun e w' => e = .returned (.bool (mB xs)) ∧ ∃ n, w.drewN n = w' := by
  go_enter Try.func265, Try.ntmps265
  go_wp2
  go_loopw [7] (fun i wr => ∃ k : Nat, k ≤ xs.length ∧ i = .int .i64 k ∧ PreM xs k ∧ ∃ n, wr = w.drewN n) (fun i _ => xs.length - (intOf i).toNat)
  case atStart => exact ⟨0, Nat.zero_le _, rfl, PreM.zero _, 0, rfl⟩
  case round =>
    obtain ⟨k, hk, rfl, hpre, n, hn⟩ := hrel
    have hrr : Rd wr B A xs.length (fun j => (ints xs).getD j undef) := by rw [hn]; exact hr
    have HN := Lib.hid hn
    clear hn
    by_cases hlt : k < xs.length
    · obtain ⟨ad, rfl, _, hc⟩ := hrr.at_ hlt
      rw [ints_getD xs k hlt] at hc
      have hkb0 : (0 : Int) ≤ k := by omega
      have hkb1 : (k : Int) < xs.length := by omega
      by_cases hin : xs[k] < 0 ∨ 4096 < xs[k]
      · have hv := mB_out hlt hin
        have HV := Lib.hid hv
        clear hv
        go_wp2
        go_quiet ((go_at_call 239; exact Calls.quiet_of_same (q_in_no _ _ _ _ hin)))
        go_wp2
        go_ret
        exact ⟨ret_bool HV.out.symm, _, by rw [HN.out, World.drewN_drewN]⟩
      · have i1 : 0 ≤ xs[k] := by omega
        have i2 : xs[k] ≤ 4096 := by omega
        clear hin
        by_cases hk0 : (k : Int) ≤ 0
        · have hp' := hpre.succ hlt ⟨i1, i2⟩ (fun h => absurd h (by omega))
          have hdz : decide ((0 : Int) < (k : Int)) = false := decide_eq_false (by omega)
          have hdn : decide (0 < k) = false := decide_eq_false (by omega)
          go_wp2
          go_quiet ((go_at_call 239; exact Calls.quiet_of_same (q_in_yes _ _ _ _ i1 i2)))
          go_wp2
          go_roundw
          case rel => exact ⟨k + 1, by omega, by go_num, hp', _, by rw [HN.out, World.drewN_drewN]⟩
          case measure => simp [intOf]; omega
        · have hk1 : 0 < (k : Int) := by omega
          clear hk0
          obtain ⟨bd, e, _, hd⟩ := hrr.at_ (show k - 1 < xs.length by omega)
          rw [ints_getD xs (k - 1) (by omega)] at hd
          injection e with e
          subst e
          have hkb : (k : Int) - 1 < xs.length := by omega
          have hkc : 0 ≤ (k : Int) - 1 := by omega
          have hdz : decide ((0 : Int) < (k : Int)) = true := decide_eq_true hk1
          have hdn : decide (0 < k) = true := decide_eq_true (by omega)
          have htn : ((k : Int) - 1).toNat = k - 1 := by omega
          have hwk : IntKind.i64.wrap ((k : Int) - 1) = (k : Int) - 1 := IntWalk.i64_in _ (by omega)
          by_cases hf : xs[k] ≤ xs[k - 1]
          · have hv := mB_fall hlt (by omega) hf
            have HV := Lib.hid hv
            have hdf : decide (xs[k] ≤ xs[k - 1]) = true := decide_eq_true hf
            clear hv
            go_wp2
            go_quiet ((go_at_call 239; exact Calls.quiet_of_same (q_in_yes _ _ _ _ i1 i2)))
            go_wp2
            go_ret
            exact ⟨ret_bool HV.out.symm, _, by rw [HN.out, World.drewN_drewN]⟩
          · have hf' : xs[k - 1] < xs[k] := by omega
            have hp' := hpre.succ hlt ⟨i1, i2⟩ (fun _ => hf')
            have hdf : decide (xs[k] ≤ xs[k - 1]) = false := decide_eq_false (by omega)
            clear hf
            go_wp2
            go_quiet ((go_at_call 239; exact Calls.quiet_of_same (q_in_yes _ _ _ _ i1 i2)))
            go_wp2
            go_roundw
            case rel => exact ⟨k + 1, by omega, by go_num, hp', _, by rw [HN.out, World.drewN_drewN]⟩
            case measure => simp [intOf]; omega
    · obtain rfl : k = xs.length := by omega
      have hv := hpre.valid (by omega) (by omega)
      have HV := Lib.hid hv
      clear hv
      go_wp2
      go_ret
      exact ⟨ret_bool HV.out.symm, n, by rw [HN.out]⟩

end Go.Proofs.Ytkjmlpdbnnmlhab.marks
