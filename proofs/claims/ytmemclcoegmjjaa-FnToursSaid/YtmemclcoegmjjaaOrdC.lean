/- Orders of directions, by the program. -/
import Derived.Test.YtmemclcoegmjjaaRows
import Derived.Test.YtmemclcoegmjjaaSlc
import Derived.Test.YtmemclcoegmjjaaSmall
import Derived.Test.YtmemclcoegmjjaaListI
import Derived.Test.YtmemclcoegmjjaaSortO
import Derived.Test.YtmemclcoegmjjaaSeqV
import Derived.WalkKit
import Derived.ProofKit
import Derived.OpenShut
import Derived.ShutString
import Derived.ChangeOld
import Derived.Below
import Derived.Lib.Hide
import Derived.BigQuiet
import Derived.Deep.QuietTactic
import Derived.WalkLawsBesides
import Derived.Outline
import Derived.Deep.QuietTactic
import Derived.BigQuiet
import Derived.Deep.LoopGhost
import Derived.Deep.RegionHeld3
import Derived.Deep.RegionWith
namespace Go.Proofs.Ytmemclcoegmjjaa.ordC
open Go.ChangeShapes Go.WideShapes Go.ChangeAt Go.RowKit
open Go.ChangeMaps (open_string shut_string)
set_option linter.unusedVariables false
open Go Go.RowKit
open Go.Proofs.Ytmemclcoegmjjaa.slc Go.Proofs.Ytmemclcoegmjjaa.small Go.Proofs.Ytmemclcoegmjjaa.listI Go.Proofs.Ytmemclcoegmjjaa.sortO Go.Proofs.Ytmemclcoegmjjaa.seqV

/-- An order of n directions. -/
def ordB (xs : List Int) (n : Nat) : Bool := decide (xs.length = n ∧ (∀ x ∈ xs, 0 ≤ x ∧ x ≤ (n : Int) - 1) ∧ xs.Nodup)
theorem ord_yes {xs : List Int} {n : Nat} (h : ordB xs n = true) : xs.length = n ∧ (∀ x ∈ xs, 0 ≤ x ∧ x ≤ (n : Int) - 1) ∧ xs.Nodup := of_decide_eq_true h
/-- A rising set of numbers up to m. -/
def setB (xs : List Int) (m : Int) : Bool := decide ((∀ x ∈ xs, 0 ≤ x ∧ x ≤ m) ∧ xs.Pairwise (· < ·))
theorem set_ord {s xs : List Int} {n : Nat} (hp : s.Perm xs) (hs : s.Pairwise (fun x y => ¬ iLt y x)) (hl : xs.length = n) : setB s ((n : Int) - 1) = ordB xs n := by
  unfold setB ordB
  rw [decide_eq_decide]
  constructor
  · rintro ⟨h1, h2⟩
    refine ⟨hl, fun x hx => h1 x (hp.mem_iff.2 hx), hp.nodup_iff.1 ?_⟩
    exact h2.imp fun h => by omega
  · rintro ⟨_, h1, h2⟩
    refine ⟨fun x hx => h1 x (hp.mem_iff.1 hx), ?_⟩
    have h3 : s.Nodup := hp.nodup_iff.2 h2
    exact (hs.and h3).imp fun ⟨a, b⟩ => by unfold iLt at a; omega
theorem mB_out {xs : List Int} {m : Int} {k : Nat} (hk : k < xs.length) (h : xs[k] < 0 ∨ m < xs[k]) : setB xs m = false :=
  decide_eq_false (fun h' => by have := h'.1 _ (List.getElem_mem hk); omega)
theorem mB_fall {xs : List Int} {m : Int} {k : Nat} (hk : k < xs.length) (hk0 : 0 < k) (h : xs[k] ≤ xs[k - 1]) : setB xs m = false :=
  decide_eq_false (fun h' => by have := (List.pairwise_iff_getElem.1 h'.2) (k - 1) k (by omega) hk (by omega); omega)
/-- The first k numbers are valid ones. -/
def PreM (xs : List Int) (m : Int) (k : Nat) : Prop := ∀ i (hi : i < xs.length), i < k → (0 ≤ xs[i] ∧ xs[i] ≤ m) ∧ (0 < i → xs[i - 1] < xs[i])
theorem PreM.zero (xs : List Int) (m : Int) : PreM xs m 0 := fun i _ h => absurd h (by omega)
theorem PreM.succ {xs : List Int} {m : Int} {k : Nat} (h : PreM xs m k) (hk : k < xs.length) (h1 : 0 ≤ xs[k] ∧ xs[k] ≤ m) (h2 : 0 < k → xs[k - 1] < xs[k]) : PreM xs m (k + 1) := by
  intro i hi hlt
  rcases Nat.lt_succ_iff_lt_or_eq.1 hlt with h' | rfl
  · exact h i hi h'
  · exact ⟨h1, h2⟩
theorem PreM.valid {xs : List Int} {m : Int} (h : PreM xs m xs.length) : setB xs m = true := by
  refine decide_eq_true ⟨fun x hx => ?_, List.pairwise_iff_getElem.2 ?_⟩
  · obtain ⟨i, hi, rfl⟩ := List.mem_iff_getElem.1 hx
    exact (h i hi hi).1
  · have key : ∀ (d i : Nat) (hi : i < xs.length) (hj : i + d + 1 < xs.length), xs[i] < xs[i + d + 1] := by
      intro d
      induction d with
      | zero => intro i hi hj; exact (h (i + 1) hj hj).2 (by omega)
      | succ d ih =>
        intro i hi hj
        have a := ih i hi (by omega)
        have b := (h (i + (d + 1) + 1) hj hj).2 (by omega)
        have e : i + (d + 1) + 1 - 1 = i + d + 1 := by omega
        simp only [e] at b
        omega
    intro i j hi hj hij
    obtain ⟨d, rfl⟩ := Nat.exists_eq_add_of_lt hij
    exact key d i hi hj

set_option maxHeartbeats 400000 in
set_option maxRecDepth 100000 in
theorem set_impl (A : Option Addr) (c B : Nat) (xs : List Int) (m : Int) (w : World) (h2 : xs.length ≤ 16) (hr : Rd w B A xs.length (fun j => (ints xs).getD j undef)) :
    Calls Try.prog 149 #[.slice A xs.length c, .int .i64 0, .int .i64 m] w fun e w' => e = .returned (.bool (setB xs m)) ∧ w = w' := by
  go_enter Try.func149, Try.ntmps149
  go_wp2
  go_loop [11] (fun i => ∃ k : Nat, k ≤ xs.length ∧ i = .int .i64 k ∧ PreM xs m k) (fun i => xs.length - (intOf i).toNat)
  case atStart => exact ⟨0, Nat.zero_le _, rfl, PreM.zero _ _⟩
  case round =>
    obtain ⟨k, hk, rfl, hpre⟩ := hrel
    by_cases hlt : k < xs.length
    · obtain ⟨ad, rfl, _, hc⟩ := hr.at_ hlt
      rw [ints_getD xs k hlt] at hc
      by_cases hin : xs[k] < 0 ∨ m < xs[k]
      · have hv := mB_out hlt hin
        have HV := Lib.hid hv
        clear hv
        go_wp2_with (go_at_call 88; refine (within_no _ _ _ _ hin).mono ?_; rintro e w' ⟨rfl, rfl⟩)
        go_ret
        exact ⟨ret_bool HV.out.symm, rfl⟩
      · have i1 : 0 ≤ xs[k] := by omega
        have i2 : xs[k] ≤ m := by omega
        clear hin
        by_cases hk0 : (k : Int) ≤ 0
        · have hp' := hpre.succ hlt ⟨i1, i2⟩ (fun h => absurd h (by omega))
          go_wp2_with (go_at_call 88; refine (within_yes _ _ _ _ i1 i2).mono ?_; rintro e w' ⟨rfl, rfl⟩)
          go_round
          case rel => exact ⟨k + 1, by omega, by go_num, hp'⟩
          case measure => simp [intOf]; omega
        · have hk1 : 0 < (k : Int) := by omega
          clear hk0
          obtain ⟨bd, e, _, hd⟩ := hr.at_ (show k - 1 < xs.length by omega)
          rw [ints_getD xs (k - 1) (by omega)] at hd
          injection e with e
          subst e
          have hkb : (k : Int) - 1 < xs.length := by omega
          by_cases hf : xs[k] ≤ xs[k - 1]
          · have hv := mB_fall (m := m) hlt (by omega) hf
            have HV := Lib.hid hv
            clear hv
            go_wp2_with (go_at_call 88; refine (within_yes _ _ _ _ i1 i2).mono ?_; rintro e w' ⟨rfl, rfl⟩)
            go_ret
            exact ⟨ret_bool HV.out.symm, rfl⟩
          · have hf' : xs[k - 1] < xs[k] := by omega
            have hp' := hpre.succ hlt ⟨i1, i2⟩ (fun _ => hf')
            clear hf
            go_wp2_with (go_at_call 88; refine (within_yes _ _ _ _ i1 i2).mono ?_; rintro e w' ⟨rfl, rfl⟩)
            go_round
            case rel => exact ⟨k + 1, by omega, by go_num, hp'⟩
            case measure => simp [intOf]; omega
    · obtain rfl : k = xs.length := by omega
      have hv := hpre.valid
      have HV := Lib.hid hv
      clear hv
      go_wp2
      go_ret
      exact ⟨ret_bool HV.out.symm, rfl⟩

set_option maxHeartbeats 800000 in
set_option maxRecDepth 100000 in
theorem ord_impl (A : Option Addr) (c B : Nat) (xs : List Int) (n : Nat) (w : World) (h1 : 1 ≤ n) (h7 : n ≤ 7) (hm : xs.length ≤ 9223372036854775807) (hr : Rd w B A xs.length (fun j => (ints xs).getD j undef)) (hB : B ≤ w.heap.size) :
    Calls Try.prog 105 #[.slice A xs.length c, .int .i64 n] w fun e w' => e = .returned (.bool (ordB xs n)) ∧ w.grownBy w' none := by
  by_cases hl : xs.length = n
  · have hn1 : (n : Int) - 1 ≤ 6 := by omega
    have hl7 : xs.length ≤ 7 := by omega
    have hl1 : 1 ≤ xs.length := by omega
    have g0 := World.grownBy_alloc w (.cells #[.slice A xs.length c] 59) none
    have hD : (w.alloc (.cells #[.slice A xs.length c] 59)).cell? ⟨w.heap.size, 0, none⟩ = some (.slice A xs.length c) := by simp
    have HS := Lib.hid (sorted_c w.heap.size A c xs _ hl1 hl7 hD (by simp) ((hr.kept0 g0 hB).mono (Nat.le_trans hB g0.size)))
    have HO := Lib.hid (fun (s : List Int) (hp : s.Perm xs) (hs : s.Pairwise (fun x y => ¬ iLt y x)) => set_ord hp hs hl)
    have HL := Lib.hid hl
    have hli : (xs.length : Int) = n := by omega
    clear hr g0 hD hl
    go_enter Try.func105, Try.ntmps105
    go_wp2_with fail
    refine (values_i _ _ _ _).mono ?_
    rintro e w' ⟨rfl, rfl⟩
    go_wp2_with fail
    refine HS.out.mono ?_
    rintro e w1 ⟨O, d, s, rfl, hp, hs, ho, hg⟩
    have hsl : s.length = xs.length := hp.length_eq
    have hrd := Rd.of_own ho (Nat.mul_one _).symm
    rw [← hsl] at hrd
    have HI0 := set_impl O d _ s ((n : Int) - 1) w1 (by omega) hrd
    rw [hsl] at HI0
    have HI := Lib.hid HI0
    have HE := Lib.hid (HO.out s hp hs)
    have HG := Lib.hid ((World.grownBy_alloc w (.cells #[.slice A xs.length c] 59) none).trans hg)
    clear hrd ho hg HI0
    go_wp2_with fail
    refine HI.out.mono ?_
    rintro e w' ⟨rfl, rfl⟩
    go_wp2_with fail
    go_ret
    exact ⟨ret_bool HE.out, HG.out⟩
  · have HV := Lib.hid (show ordB xs n = false from decide_eq_false fun h => hl h.1)
    have hli : ¬ (xs.length : Int) = n := by omega
    clear hl hr
    go_enter Try.func105, Try.ntmps105
    go_wp2_with fail
    go_ret
    exact ⟨ret_bool HV.out.symm, World.grownBy.refl _ _⟩

end Go.Proofs.Ytmemclcoegmjjaa.ordC
