/- The law on IsName answers true at every string. No condition. -/
import Derived.Test.YtbghkjjnmdlkfacRows
import Derived.WalkKit
import Derived.ProofKit
import Derived.OpenShut
import Derived.ShutString
import Derived.ChangeOld
import Derived.Below
import Derived.Lib.Hide
import Derived.BigQuiet
import Derived.Deep.QuietTactic
import Derived.WalkLawsBesides
import Derived.Outline
namespace Go.Proofs.Ytbghkjjnmdlkfac.isName
open Go.ChangeShapes Go.WideShapes Go.ChangeAt Go.RowKit
open Go.ChangeMaps (open_string shut_string)
set_option linter.unusedVariables false
theorem own : ownKnob Try.prog.godebug = none := by kernel_rfl
theorem laidOut : laidOutB Try.prog = true := by kernel_rfl
def okc (c : UInt8) : Bool := 97 ≤ c && c ≤ 122
def nm (l : List UInt8) : Bool := l.all okc
theorem nm_snoc (l : List UInt8) (c : UInt8) : nm (l ++ [c]) = (nm l && okc c) := by simp [nm]
theorem okc_iff (c : UInt8) : okc c = true ↔ 97 ≤ (c.toNat : Int) ∧ (c.toNat : Int) ≤ 122 := by
  simp [okc, UInt8.le_iff_toNat_le]; omega
theorem nm_bad (s : ByteArray) (k : Nat) (h : k < s.size) (hb : okc s[k] = false) : nm s.data.toList = false := by
  simp only [nm, List.all_eq_false]
  exact ⟨s[k], by exact Array.getElem_mem_toList (by exact h), by simp [hb]⟩
theorem take_snoc (s : ByteArray) (k : Nat) (h : k < s.size) : s.data.toList.take (k + 1) = s.data.toList.take k ++ [s[k]] := by
  rw [List.take_succ_eq_append_getElem (by simpa using h)]; rfl
theorem ret_bool {a b : Bool} (h : a = b) : Ending.returned (.bool a) = .returned (.bool b) := by rw [h]
def isN (s : ByteArray) : Bool := decide (1 ≤ s.size) && decide (s.size ≤ 8) && nm s.data.toList

theorem isN_all (s : ByteArray) (h : nm s.data.toList = true) (h1 : 1 ≤ s.size) (h8 : s.size ≤ 8) : isN s = true := by simp [isN, h, h1, h8]
theorem isN_bad (s : ByteArray) (h : nm s.data.toList = false) : isN s = false := by simp [isN, h]
theorem isN_len (s : ByteArray) (h : s.size < 1 ∨ 8 < s.size) : isN s = false := by
  simp only [isN, Bool.and_eq_false_iff, decide_eq_false_iff_not]; left; omega
theorem bad_lo (s : ByteArray) (k : Nat) (h : k < s.size) (hb : (s[k].toNat : Int) < 97) : isN s = false :=
  isN_bad s (nm_bad s k h (by rw [Bool.eq_false_iff]; intro e; have := (okc_iff _).1 e; omega))
theorem bad_hi (s : ByteArray) (k : Nat) (h : k < s.size) (hb : 122 < (s[k].toNat : Int)) : isN s = false :=
  isN_bad s (nm_bad s k h (by rw [Bool.eq_false_iff]; intro e; have := (okc_iff _).1 e; omega))
theorem step_ok (s : ByteArray) (k : Nat) (h : k < s.size) (hk : nm (s.data.toList.take k) = true) (h1 : 97 ≤ (s[k].toNat : Int)) (h2 : (s[k].toNat : Int) ≤ 122) : nm (s.data.toList.take (k + 1)) = true := by
  rw [take_snoc s k h, nm_snoc, hk, (okc_iff _).2 ⟨h1, h2⟩]; rfl
theorem whole (s : ByteArray) (k : Nat) (h : k = s.size) (hk : nm (s.data.toList.take k) = true) : nm s.data.toList = true := by
  rwa [List.take_of_length_le (by subst h; exact Nat.le_of_eq (by simp))] at hk

set_option maxHeartbeats 400000 in
theorem spec_any (s : ByteArray) (w : World) (hs : s.size ≤ maxLen) :
    Calls Try.prog 5 #[.string s] w fun e w' => e = .returned (.bool (isN s)) ∧ w = w' := by
  unfold maxLen at hs
  go_enter Try.func5, Try.ntmps5
  go_wp2
  go_loop [3] (fun i => ∃ k : Nat, k ≤ s.size ∧ i = .int .i64 k ∧ Hid (nm (s.data.toList.take k) = true)) (fun i => s.size - (intOf i).toNat)
  case atStart => exact ⟨0, Nat.zero_le _, rfl, Lib.hid (by simp [nm])⟩
  case round =>
    obtain ⟨k, hk, rfl, hnm⟩ := hrel
    by_cases hlt : k < s.size
    · by_cases c1 : (s[k].toNat : Int) < 97
      · go_wp2
        go_ret
        exact ⟨ret_bool (bad_lo s k hlt c1).symm, rfl⟩
      · by_cases c2 : 122 < (s[k].toNat : Int)
        · go_wp2
          go_ret
          exact ⟨ret_bool (bad_hi s k hlt c2).symm, rfl⟩
        · go_wp2
          go_round
          case rel => exact ⟨k + 1, by omega, by go_num, Lib.hid (step_ok s k hlt hnm.out (by omega) (by omega))⟩
          case measure => simp [intOf]; omega
    · have hall : Hid (nm s.data.toList = true) := Lib.hid (whole s k (by omega) hnm.out)
      by_cases h1 : 1 ≤ s.size
      · by_cases h8 : s.size ≤ 8
        · go_wp2
          go_ret
          exact ⟨ret_bool (by rw [isN_all s hall.out h1 h8]; exact decide_eq_true (by omega)), rfl⟩
        · go_wp2
          go_ret
          exact ⟨ret_bool (by rw [isN_len s (by omega)]; exact decide_eq_false (by omega)), rfl⟩
      · go_wp2
        go_ret
        exact ⟨ret_bool (isN_len s (by omega)).symm, rfl⟩

set_option maxHeartbeats 400000 in
theorem impl_any (s : ByteArray) (w : World) (hs : s.size ≤ maxLen) :
    Calls Try.prog 6 #[.string s] w fun e w' => e = .returned (.bool (isN s)) ∧ w = w' := by
  unfold maxLen at hs
  by_cases h1 : s.size < 1
  · go_enter Try.func6, Try.ntmps6
    go_wp2
    go_ret
    exact ⟨ret_bool (isN_len s (by omega)).symm, rfl⟩
  · by_cases h8 : 8 < s.size
    · go_enter Try.func6, Try.ntmps6
      go_wp2
      go_ret
      exact ⟨ret_bool (isN_len s (by omega)).symm, rfl⟩
    · go_enter Try.func6, Try.ntmps6
      go_wp2
      go_loop [14] (fun i => ∃ k : Nat, k ≤ s.size ∧ i = .int .i64 k ∧ Hid (nm (s.data.toList.take k) = true)) (fun i => s.size - (intOf i).toNat)
      case atStart => exact ⟨0, Nat.zero_le _, rfl, Lib.hid (by simp [nm])⟩
      case round =>
        obtain ⟨k, hk, rfl, hnm⟩ := hrel
        by_cases hlt : k < s.size
        · by_cases c1 : (s[k].toNat : Int) < 97
          · go_wp2
            go_ret
            exact ⟨ret_bool (bad_lo s k hlt c1).symm, rfl⟩
          · by_cases c2 : 122 < (s[k].toNat : Int)
            · go_wp2
              go_ret
              exact ⟨ret_bool (bad_hi s k hlt c2).symm, rfl⟩
            · go_wp2
              go_round
              case rel => exact ⟨k + 1, by omega, by go_num, Lib.hid (step_ok s k hlt hnm.out (by omega) (by omega))⟩
              case measure => simp [intOf]; omega
        · have hall : Hid (nm s.data.toList = true) := Lib.hid (whole s k (by omega) hnm.out)
          go_wp2
          go_ret
          exact ⟨ret_bool (isN_all s hall.out (by omega) (by omega)).symm, rfl⟩

theorem walk (a0 : ByteArray) (w : World) (w0 : a0.size ≤ maxLen) :
    Calls Try.prog 3 #[.string a0] w fun e w' => e = .returned (.bool true) ∧ Below w.heap.size w w' := by
  by_cases hl : 1048576 < a0.size
  · go_enter Try.func3, Try.ntmps3
    go_wp2
    go_ret
    exact ⟨rfl, Below.refl _ _⟩
  · have hs := fun w => spec_any a0 w w0
    have hi := fun w => impl_any a0 w w0
    generalize isN a0 = b at hs hi
    cases b
    all_goals
      go_enter Try.func3, Try.ntmps3
      go_wp2_with (first
        | (go_at_call 5; refine (hs _).mono ?_; rintro e w' ⟨rfl, rfl⟩)
        | (go_at_call 6; refine (hi _).mono ?_; rintro e w' ⟨rfl, rfl⟩))
      go_ret
      exact ⟨rfl, Below.refl _ _⟩

set_option maxRecDepth 100000 in
theorem lifted (os : Os) (started : os.Started) (H : Type) (enc : TypeId × Value → H) :
    ReturnsInHanded {} Try.checked os 3 .any (Rows.fnExactIsNameSpec.pre6 enc Try.prog Try.f3 Rows.fnExactIsNameRow.domain false) (Rows.fnExactIsNameSpec.post enc Try.prog Try.f3 false true false false) := by
  refine returnsInHanded_of_change (C := Try.checked) own started (by kernel_rfl) Try.func3
    (ChangeSpec.witness6 (enc := enc) (C := Try.checked) false ⟨#[], #[.string ByteArray.empty], []⟩ 8 (by kernel_rfl) (by kernel_rfl) (by kernel_rfl) (by kernel_rfl)) ?_
  intro W base args ds gs before hval0 hW hcnd _
  have hval : ∀ (j : Nat) t v, Try.f3.params[j]? = some t → args[j]? = some v → Value.okWide Try.prog W .any base t v := hval0
  have hW' := hW
  obtain ⟨p, q, hA0, hV, rfl, hfz, hnd⟩ := hW
  have hA : DataW.TrodAll enc Try.prog W 0 (fun _ => true) true Try.f3.params.toList args.toList ds p := hA0
  rw [Try.params3] at hA hval
  obtain ⟨v0, vs0, d0, ds0, p0, q0, hargs, rfl, rfl, h0, r0⟩ := trodAll_cons hA
  obtain ⟨rfl, rfl, rfl⟩ := trodAll_nil r0
  obtain rfl : args = #[v0] := by cases args; simp_all
  obtain ⟨rfl, rfl⟩ := trodVars_none hV
  obtain ⟨a0, rfl, rfl, rfl, w0⟩ := open_string Try.underlying9 (hval 0 9 v0 rfl rfl) h0
  clear hA0 hval0
  refine (walk a0 W w0).mono fun e W' ⟨he, bel⟩ => ?_
  subst he
  exact ⟨_, rfl, _, _, _, [], _, [], hW', trodAll_mk1 (shut_bool Try.underlying4 _), (trodAll_cons_mk (shut_string Try.underlying9 w0) trodAll_mk0), rfl, bel.frame _, fun h => by cases h⟩

theorem over : Rows.fnExactIsNameRow.holds Try.pinned (OpenSpec.ofChange Rows.fnExactIsNameSpec) :=
  OpenClaim.holds_of_wide 3 Try.f3 rfl rfl rfl rfl rfl rfl rfl ⟨rfl, rfl, rfl, rfl, rfl⟩ rfl rfl rfl rfl rfl (by kernel_rfl) Try.func3 (by kernel_rfl)
    (of_decide_eq_true (by kernel_rfl)) (by unfold Func.isWrapper; first | (rw [if_pos (by decide +kernel)]; kernel_rfl) | (rw [if_neg (by decide +kernel)]; exact ⟨rfl, rfl⟩))
    (fun os started H enc _ => lifted os started H enc)

theorem proved : Rows.FnExactIsNameSaid := over
#print axioms proved
end Go.Proofs.Ytbghkjjnmdlkfac.isName
