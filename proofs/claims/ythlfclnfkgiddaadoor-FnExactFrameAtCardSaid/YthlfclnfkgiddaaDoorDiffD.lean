/- Where two texts differ first, by the program and the model. -/
import Derived.Test.YthlfclnfkgiddaaDoorRows
import Derived.Test.YthlfclnfkgiddaaDoorSlc
import Derived.Test.YthlfclnfkgiddaaDoorSmall
import Derived.Test.YthlfclnfkgiddaaDoorElemC
import Derived.Test.YthlfclnfkgiddaaDoorHeadC
import Derived.Test.YthlfclnfkgiddaaDoorDiffC
import Derived.WalkKit
import Derived.ProofKit
import Derived.OpenShut
import Derived.ShutString
import Derived.ChangeOld
import Derived.Below
import Derived.Lib.Hide
import Derived.BigQuiet
import Derived.Deep.QuietTactic
import Derived.WalkLawsBesides
import Derived.Outline
import Derived.Deep.QuietTactic
import Derived.BigQuiet
import Derived.Deep.LoopGhost
import Derived.Deep.RegionWith
import Derived.Deep.RegionHeld3
import Derived.Lib.Strings
namespace Go.Proofs.YthlfclnfkgiddaaDoor.diffD
open Go.ChangeShapes Go.WideShapes Go.ChangeAt Go.RowKit
open Go.ChangeMaps (open_string shut_string)
set_option linter.unusedVariables false
open Go Go.RowKit
open Go.Proofs.YthlfclnfkgiddaaDoor.slc Go.Proofs.YthlfclnfkgiddaaDoor.small Go.Proofs.YthlfclnfkgiddaaDoor.elemC Go.Proofs.YthlfclnfkgiddaaDoor.headC Go.Proofs.YthlfclnfkgiddaaDoor.diffC

open Classical in
/-- What FirstDifference returns. -/
noncomputable def fd (L M : List UInt8) : Nat × Nat × Bool := if hB L = true ∧ hB M = true ∧ eB L = eB M ∧ ¬ L = M then (cp (L.drop 5) (M.drop 5) / (8 * eB L + 6), cp (L.drop 5) (M.drop 5) % (8 * eB L + 6), true) else (0, 0, false)
theorem fd_no {L M : List UInt8} (h : ¬ (hB L = true ∧ hB M = true ∧ eB L = eB M ∧ ¬ L = M)) : fd L M = (0, 0, false) := by unfold fd; rw [if_neg h]
theorem fd_yes {L M : List UInt8} (h : hB L = true ∧ hB M = true ∧ eB L = eB M ∧ ¬ L = M) : fd L M = (cp (L.drop 5) (M.drop 5) / (8 * eB L + 6), cp (L.drop 5) (M.drop 5) % (8 * eB L + 6), true) := by unfold fd; rw [if_pos h]
theorem head_eq {L : List UInt8} (h : hB L = true) : L = [65, 82, 82, 49] ++ (L.getD 4 0 :: L.drop 5) := by
  obtain ⟨h5, hp, _⟩ := hB_yes h
  unfold pB at hp
  have h1 := eq_of_beq hp
  rw [← drop_cons (by omega), ← h1, List.take_append_drop]
theorem rest_eq {L M : List UInt8} (h : hB L = true) (h' : hB M = true) (he : eB L = eB M) : L.drop 5 = M.drop 5 ↔ L = M := by
  constructor
  · intro hd
    rw [head_eq h, head_eq h', hd, show L.getD 4 0 = M.getD 4 0 from UInt8.toNat_inj.1 he]
  · intro e; rw [e]
theorem bytes_beq (a b : ByteArray) (p : Bool) (h : (a.data.toList = b.data.toList) ↔ p = true) : (a.toList == b.toList) = p := by
  rw [Lib.toList_data, Lib.toList_data]
  cases p with
  | true => rw [h.2 rfl]; simp
  | false =>
    rw [beq_eq_false_iff_ne]
    intro e
    have := h.1 e
    cases this
theorem quo_rem (K D : Nat) (h : 1 ≤ D) : (K : Int) / (D : Int) = ((K / D : Nat) : Int) ∧ Int.tdiv (K : Int) (D : Int) = ((K / D : Nat) : Int) ∧ (K : Int) % (D : Int) = ((K % D : Nat) : Int) ∧ Int.tmod (K : Int) (D : Int) = ((K % D : Nat) : Int) ∧ K / D ≤ K ∧ K % D ≤ K := by
  refine ⟨by simp, by rw [Int.tdiv_eq_ediv_of_nonneg (by omega)]; simp, by simp, by rw [Int.tmod_eq_emod_of_nonneg (by omega)]; simp, Nat.div_le_self _ _, Nat.mod_le _ _⟩
set_option maxHeartbeats 2000000 in
set_option maxRecDepth 100000 in
theorem fd_impl (s t : ByteArray) (w : World) (hs : s.size ≤ 1099511627776) (ht : t.size ≤ 1099511627776) (hv : ErrV 1 w) :
    Calls Tryd.prog 28 #[.string s, .string t] w fun e w' => e = .returned (.tuple #[.int .i64 (fd s.data.toList t.data.toList).1, .int .i64 (fd s.data.toList t.data.toList).2.1, .bool (fd s.data.toList t.data.toList).2.2]) ∧ w.grownBy w' none := by
  have hsm : s.size ≤ maxLen := by unfold maxLen; omega
  have htm : t.size ≤ maxLen := by unfold maxLen; omega
  cases h1 : hB s.data.toList with
  | false =>
    rw [fd_no (by rw [h1]; simp)]
    have HA := Lib.hid (split_no s w hsm h1 hv)
    cases h2 : hB t.data.toList with
    | false =>
      have HB := Lib.hid (fun w' (g : w.grownBy w' none) => split_no t w' htm h2 (hv.kept g))
      clear h1 h2 hsm htm hv
      go_enter Tryd.func28, Tryd.ntmps28
      go_wp2_with fail
      refine HA.out.mono ?_
      rintro e w1 ⟨⟨tp, p, rfl⟩, g1⟩
      go_wp2_with fail
      refine (HB.out _ g1).mono ?_
      rintro e w2 ⟨⟨tp2, p2, rfl⟩, g2⟩
      go_wp2_with fail
      exact bodyPost_ret (v := .tuple #[.int .i64 0, .int .i64 0, .bool false]) (by simp [results, Tryd.results28, go_sem]) rfl ⟨rfl, g1.trans g2⟩
    | true =>
      have HB := Lib.hid (fun w' => split_yes t w' htm h2)
      clear h1 h2 hsm htm hv
      go_enter Tryd.func28, Tryd.ntmps28
      go_wp2_with fail
      refine HA.out.mono ?_
      rintro e w1 ⟨⟨tp, p, rfl⟩, g1⟩
      go_wp2_with fail
      refine (HB.out _).mono ?_
      rintro e w2 ⟨⟨r, hr, rfl⟩, g2⟩
      go_wp2_with fail
      exact bodyPost_ret (v := .tuple #[.int .i64 0, .int .i64 0, .bool false]) (by simp [results, Tryd.results28, go_sem]) rfl ⟨rfl, g1.trans g2⟩
  | true =>
    have HA := Lib.hid (split_yes s w hsm h1)
    cases h2 : hB t.data.toList with
    | false =>
      rw [fd_no (by rw [h2]; simp)]
      have HB := Lib.hid (fun w' (g : w.grownBy w' none) => split_no t w' htm h2 (hv.kept g))
      clear h1 h2 hsm htm hv
      go_enter Tryd.func28, Tryd.ntmps28
      go_wp2_with fail
      refine HA.out.mono ?_
      rintro e w1 ⟨⟨r, hr, rfl⟩, g1⟩
      go_wp2_with fail
      refine (HB.out _ g1).mono ?_
      rintro e w2 ⟨⟨tp2, p2, rfl⟩, g2⟩
      go_wp2_with fail
      exact bodyPost_ret (v := .tuple #[.int .i64 0, .int .i64 0, .bool false]) (by simp [results, Tryd.results28, go_sem]) rfl ⟨rfl, g1.trans g2⟩
    | true =>
      have HB := Lib.hid (fun w' => split_yes t w' htm h2)
      by_cases he : eB s.data.toList = eB t.data.toList
      · by_cases hq : s.data.toList = t.data.toList
        · rw [fd_no (fun h => h.2.2.2 hq)]
          rw [← he] at HB
          generalize eB s.data.toList = n at *
          clear he h1 h2 hsm htm hv
          go_enter Tryd.func28, Tryd.ntmps28
          go_wp2_with fail
          refine HA.out.mono ?_
          rintro e w1 ⟨⟨r, hr, rfl⟩, g1⟩
          go_wp2_with fail
          refine (HB.out _).mono ?_
          rintro e w2 ⟨⟨r2, hr2, rfl⟩, g2⟩
          have hb := bytes_beq r r2 true (by rw [hr, hr2, hq]; simp)
          clear hr hr2 hq
          go_wp2_with fail
          exact bodyPost_ret (v := .tuple #[.int .i64 0, .int .i64 0, .bool false]) (by simp [results, Tryd.results28, go_sem]) rfl ⟨rfl, g1.trans g2⟩
        · rw [fd_yes ⟨h1, h2, he, hq⟩]
          have hre := fun h => hq ((rest_eq h1 h2 he).1 h)
          obtain ⟨_, _, e1, e2⟩ := hB_yes h1
          have hcp := cp_le (s.data.toList.drop 5) (t.data.toList.drop 5)
          rw [List.length_drop, sz] at hcp
          rw [← he] at HB
          obtain ⟨n, hn⟩ : ∃ n, eB s.data.toList = n := ⟨_, rfl⟩
          rw [hn] at HA HB e1 e2 ⊢
          obtain ⟨K, hK⟩ : ∃ K, cp (s.data.toList.drop 5) (t.data.toList.drop 5) = K := ⟨_, rfl⟩
          rw [hK] at hcp ⊢
          have HK := Lib.hid hK
          have hf := fun w => fsz_i (n : Int) w (by omega) (by omega)
          rw [show 8 * (n : Int) + 6 = ((8 * n + 6 : Nat) : Int) by omega] at hf
          obtain ⟨D, hD⟩ : ∃ D, 8 * n + 6 = D := ⟨_, rfl⟩
          rw [hD] at hf ⊢
          have hD0 : 1 ≤ D := by omega
          have HF := Lib.hid hf
          obtain ⟨q1, q2, m1, m2, q3, m3⟩ := quo_rem K D hD0
          generalize K / D = Q at *
          generalize K % D = M at *
          have HQ := Lib.hid (And.intro q1 (And.intro q2 (And.intro m1 (And.intro m2 (And.intro q3 m3)))))
          clear hD hf q1 q2 m1 m2 q3 m3
          clear he h1 h2 hsm htm hv hq hn hK
          go_enter Tryd.func28, Tryd.ntmps28
          go_wp2_with fail
          refine HA.out.mono ?_
          rintro e w1 ⟨⟨r, hr, rfl⟩, g1⟩
          go_wp2_with fail
          refine (HB.out _).mono ?_
          rintro e w2 ⟨⟨r2, hr2, rfl⟩, g2⟩
          have hb := bytes_beq r r2 false (by rw [hr, hr2]; simp only [Bool.false_eq_true, iff_false]; exact hre)
          have hz1 : r.size ≤ 1099511627776 := by rw [← sz, hr, List.length_drop, sz]; omega
          have hz2 : r2.size ≤ 1099511627776 := by rw [← sz, hr2, List.length_drop, sz]; omega
          have HC := Lib.hid (fun w => common_c r r2 w hz1 hz2)
          rw [hr, hr2, HK.out] at HC
          clear hr hr2 hre hz1 hz2
          go_wp2_with fail
          refine (HC.out _).mono ?_
          rintro e w3 ⟨rfl, g3⟩
          go_wp2_with fail
          refine (HF.out _).mono ?_
          rintro e w' ⟨rfl, rfl⟩
          obtain ⟨q1, q2, m1, m2, q3, m3⟩ := HQ.out
          have hn0 : ¬ (D : Int) = 0 := by omega
          have hn1 : (D : Int) ≠ 0 := hn0
          have wq : IntKind.i64.wrap (Q : Int) = (Q : Int) := by rw [IntKind.wrap_i64]; omega
          have wm : IntKind.i64.wrap (M : Int) = (M : Int) := by rw [IntKind.wrap_i64]; omega
          go_wp2_with fail
          go_quiet (fail)
          go_wp2_with fail
          exact bodyPost_ret (v := .tuple #[.int .i64 (Q : Nat), .int .i64 (M : Nat), .bool true]) (by simp [results, Tryd.results28, go_sem]) rfl ⟨rfl, (g1.trans (g2.trans g3)).trans (gb_drewN _ _ _)⟩
      · rw [fd_no (fun h => he h.2.2.1)]
        have he' : ¬ (eB s.data.toList : Int) = (eB t.data.toList : Int) := by omega
        generalize eB s.data.toList = n at *
        generalize eB t.data.toList = n2 at *
        clear he h1 h2 hsm htm hv
        go_enter Tryd.func28, Tryd.ntmps28
        go_wp2_with fail
        refine HA.out.mono ?_
        rintro e w1 ⟨⟨r, hr, rfl⟩, g1⟩
        go_wp2_with fail
        refine (HB.out _).mono ?_
        rintro e w2 ⟨⟨r2, hr2, rfl⟩, g2⟩
        go_wp2_with fail
        exact bodyPost_ret (v := .tuple #[.int .i64 0, .int .i64 0, .bool false]) (by simp [results, Tryd.results28, go_sem]) rfl ⟨rfl, g1.trans g2⟩
set_option maxHeartbeats 4000000 in
set_option maxRecDepth 100000 in
theorem fd_spec : True := trivial

end Go.Proofs.YthlfclnfkgiddaaDoor.diffD
