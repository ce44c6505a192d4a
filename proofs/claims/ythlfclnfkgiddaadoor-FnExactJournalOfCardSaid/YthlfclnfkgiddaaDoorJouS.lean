/- JournalOf, by the model, whole. -/
import Derived.Test.YthlfclnfkgiddaaDoorRows
import Derived.Test.YthlfclnfkgiddaaDoorSlc
import Derived.Test.YthlfclnfkgiddaaDoorSmall
import Derived.Test.YthlfclnfkgiddaaDoorWordN
import Derived.Test.YthlfclnfkgiddaaDoorNumN
import Derived.Test.YthlfclnfkgiddaaDoorWordS
import Derived.Test.YthlfclnfkgiddaaDoorCheckC
import Derived.Test.YthlfclnfkgiddaaDoorDecNum
import Derived.Test.YthlfclnfkgiddaaDoorDec
import Derived.Test.YthlfclnfkgiddaaDoorTextNum
import Derived.Test.YthlfclnfkgiddaaDoorReadNum
import Derived.Test.YthlfclnfkgiddaaDoorCutN
import Derived.Test.YthlfclnfkgiddaaDoorCutT
import Derived.Test.YthlfclnfkgiddaaDoorJouN
import Derived.Test.YthlfclnfkgiddaaDoorStrL
import Derived.Test.YthlfclnfkgiddaaDoorJouM
import Derived.WalkKit
import Derived.ProofKit
import Derived.OpenShut
import Derived.ShutString
import Derived.ChangeOld
import Derived.Below
import Derived.Lib.Hide
import Derived.BigQuiet
import Derived.Deep.QuietTactic
import Derived.WalkLawsBesides
import Derived.Outline
import Derived.Deep.QuietTactic
import Derived.BigQuiet
import Derived.Deep.LoopGhost
import Derived.Deep.RegionWith
import Derived.Deep.RegionHeld3
import Derived.Lib.Strings
namespace Go.Proofs.YthlfclnfkgiddaaDoor.jouS
open Go.ChangeShapes Go.WideShapes Go.ChangeAt Go.RowKit
open Go.ChangeMaps (open_string shut_string)
set_option linter.unusedVariables false
open Go Go.RowKit
open Go.Proofs.YthlfclnfkgiddaaDoor.slc Go.Proofs.YthlfclnfkgiddaaDoor.small Go.Proofs.YthlfclnfkgiddaaDoor.wordN Go.Proofs.YthlfclnfkgiddaaDoor.wordS Go.Proofs.YthlfclnfkgiddaaDoor.numN Go.Proofs.YthlfclnfkgiddaaDoor.cutN Go.Proofs.YthlfclnfkgiddaaDoor.cutT Go.Proofs.YthlfclnfkgiddaaDoor.jouN Go.Proofs.YthlfclnfkgiddaaDoor.strL Go.Proofs.YthlfclnfkgiddaaDoor.jouM

theorem tot_take (P : List (List UInt8)) (k : Nat) : tot (P.take k) ≤ tot P := by
  induction P generalizing k with
  | nil => simp
  | cons x t ih =>
    cases k with
    | zero => simp [tot]
    | succ k =>
      have := ih k
      unfold tot at this ⊢
      rw [List.take_succ_cons, List.map_cons, List.sum_cons, List.map_cons, List.sum_cons]
      omega
theorem tot_next {P : List (List UInt8)} {k : Nat} (h : k < P.length) : tot (P.take (k + 1)) = tot (P.take k) + (P[k].length + 3) := by
  rw [List.take_succ_eq_append_getElem h, tot_snoc]
theorem nl_take {P : List (List UInt8)} {k : Nat} (h : k < P.length) (h1 : ¬ nl (P.take k)) (h2 : (10 : UInt8) ∉ P[k]) : ¬ nl (P.take (k + 1)) := by
  rintro ⟨l, hl, h3⟩
  rw [List.take_succ_eq_append_getElem h, List.mem_append] at hl
  rcases hl with hl | hl
  · exact h1 ⟨l, hl, h3⟩
  · rw [List.mem_singleton] at hl
    subst hl
    exact h2 h3
set_option maxHeartbeats 2000000 in
set_option maxRecDepth 100000 in
theorem jo_m (A : Option Addr) (c B : Nat) (P : List (List UInt8)) (w : World) (hb : P.length + lenS P ≤ 1048576) (hB : B ≤ w.heap.size) (ha : Rd w B A P.length (stf P)) :
    Calls Tryd.prog 44 #[.slice A P.length c] w fun e w' => e = .returned (.tuple #[.string (bs (JO P).1), .bool (JO P).2]) ∧ w.grownBy w' none := by
  have HJ := Lib.hid (jour_m A c B P w hb hB ha)
  have hjt := jr_tot (c := 0) (by omega) P
  obtain ⟨n, hN⟩ : ∃ n, P.length = n := ⟨_, rfl⟩
  have HLN := Lib.hid (fun l (hl : l ∈ P) => Nat.le_trans (lenS_mem hl) (show lenS P ≤ 1048576 by omega))
  rw [hN] at ha hb HJ ⊢
  have HNL := Lib.hid hN
  have HJT := Lib.hid hjt
  have HTT := Lib.hid (tot_take P)
  clear hjt
  go_enter Tryd.func44, Tryd.ntmps44
  go_wp2_with fail
  go_loopw [4, 5] (fun m i wr => ∃ k t : Nat, k ≤ n ∧ i = .int .i64 k ∧ m = .int .i64 (t : Nat) ∧ t = tot (P.take k) ∧ t ≤ 6000 ∧ ¬ nl (P.take k) ∧ w = wr) (fun _ i _ => n - (intOf i).toNat)
  case atStart => exact ⟨0, 0, Nat.zero_le _, rfl, rfl, rfl, Nat.zero_le _, fun ⟨l, hl, _⟩ => by simp at hl, rfl⟩
  case round =>
    obtain ⟨k, t, hk, rfl, rfl, ht, ht6, hnl, rfl⟩ := hrel
    by_cases hlt : k < n
    · have hkP : k < P.length := by rw [HNL.out]; exact hlt
      obtain ⟨ad, rfl, _, hc⟩ := ha.at_ hlt
      have hst : stf P k = .string (bs P[k]) := by unfold stf; simp [List.getD, hkP]
      rw [hst] at hc
      have htn := tot_next hkP
      rw [← ht] at htn
      have hnx := fun h => nl_take hkP hnl h
      have hl1 := HLN.out _ (List.getElem_mem hkP)
      have hmem := List.getElem_mem hkP
      obtain ⟨L, hLe⟩ : ∃ L, P[k] = L := ⟨_, rfl⟩
      rw [hLe] at hc htn hnx hl1 hmem
      obtain ⟨T, hT⟩ : ∃ T, bs L = T := ⟨_, rfl⟩
      have hTl : T.data.toList = L := by rw [← hT, bs_list]
      obtain ⟨z, hz⟩ : ∃ z, T.size = z := ⟨_, rfl⟩
      have hzl : L.length = z := by rw [← hz, ← hTl]; simp
      rw [hT] at hc
      rw [hzl] at htn hl1
      have HTN := Lib.hid htn
      have HNX := Lib.hid hnx
      have HME := Lib.hid hmem
      have HZL := Lib.hid hzl
      have HTL := Lib.hid hTl
      have k0 : (0 : Int) ≤ (k : Int) := by omega
      have k1 : (k : Int) < (n : Int) := by omega
      clear hst hnx hmem hLe hT hTl hzl
      by_cases h6 : t + (z + 3) ≤ 6000
      · have h6' : ¬ (6000 : Int) < (t : Int) + ((z : Int) + 3) := by omega
        clear htn
        go_wp2_with fail
        go_loopw [6] (fun q wr => ∃ j : Nat, j ≤ z ∧ q = .int .i64 j ∧ (10 : UInt8) ∉ L.take j ∧ w = wr) (fun q _ => z - (intOf q).toNat)
        case atStart => exact ⟨0, Nat.zero_le _, rfl, by simp, rfl⟩
        case round =>
          obtain ⟨j, hj, rfl, hnt, rfl⟩ := hrel
          by_cases hjz : j < z
          · have hjL : j < L.length := by rw [HZL.out]; exact hjz
            have hjT : j < T.size := by rw [hz]; exact hjz
            obtain ⟨x, hx⟩ : ∃ x, L[j] = x := ⟨_, rfl⟩
            have hbx : (T[j].toNat : Int) = (x.toNat : Int) := by
              rw [← hx]
              congr 2
              have h1 : T.data.toList[j]? = some T[j] := by
                rw [List.getElem?_eq_getElem (by simpa using hjT)]
                rfl
              rw [HTL.out, List.getElem?_eq_getElem hjL] at h1
              exact (Option.some.inj h1).symm
            have j0 : (0 : Int) ≤ (j : Int) := by omega
            have j1 : (j : Int) < (z : Int) := by omega
            by_cases h10 : x = 10
            · have HO := Lib.hid (JO_no (P := P) (.inl ⟨L, HME.out, by rw [← h10, ← hx]; exact List.getElem_mem hjL⟩))
              have hx10 : (x.toNat : Int) = 10 := by rw [h10]; rfl
              rw [hx10] at hbx
              clear hnt hnl
              go_wp2_with fail
              rw [HO.out]
              go_ret2
              exact ⟨rfl, World.grownBy.refl _ _⟩
            · have hx10 : ¬ (x.toNat : Int) = 10 := fun e => h10 (UInt8.toNat_inj.1 (by show x.toNat = 10; omega))
              have HNT := Lib.hid (show (10 : UInt8) ∉ L.take (j + 1) from by
                rw [List.take_succ_eq_append_getElem hjL, List.mem_append, List.mem_singleton, hx]
                rintro (h | h)
                · exact hnt h
                · exact h10 h.symm)
              clear hnt hnl
              go_wp2_with fail
              go_roundw
              case rel => exact ⟨j + 1, by omega, by go_num, HNT.out, trivial⟩
              case measure => simp [intOf]; omega
          · obtain rfl : j = z := by omega
            rw [List.take_of_length_le (by rw [HZL.out]; exact Nat.le_refl _)] at hnt
            have HN2 := Lib.hid (HNX.out hnt)
            clear hnt hnl
            go_wp2_with fail
            go_roundw
            case rel => exact ⟨k + 1, t + (j + 3), by omega, by go_num, by go_num, HTN.out.symm, h6, HN2.out, trivial⟩
            case measure => simp [intOf]; omega
      · have h6' : (6000 : Int) < (t : Int) + ((z : Int) + 3) := by omega
        have hno : 6000 < (jr 0 P).length := by
          have h1 := HTT.out (k + 1)
          rw [htn] at h1
          have := HJT.out
          omega
        have HO := Lib.hid (JO_no (.inr hno))
        clear htn hno
        go_wp2_with fail
        rw [HO.out]
        go_ret2
        exact ⟨rfl, World.grownBy.refl _ _⟩
    · obtain rfl : k = n := by omega
      rw [List.take_of_length_le (by rw [HNL.out]; exact Nat.le_refl _)] at hnl
      have HNO := Lib.hid hnl
      clear hnl
      by_cases h6 : (jr 0 P).length ≤ 6000
      · have HO := Lib.hid (JO_yes HNO.out h6)
        obtain ⟨J, hJ⟩ : ∃ J, bs (jr 0 P) = J := ⟨_, rfl⟩
        have hJz : ¬ (6000 : Int) < (J.size : Int) := by rw [← hJ, bs_size]; omega
        rw [hJ] at HJ
        have HJE := Lib.hid hJ
        clear hJ
        go_wp2_with fail
        refine HJ.out.mono ?_
        rintro e w1 ⟨rfl, hg⟩
        have HG := Lib.hid hg
        clear hg
        go_wp2_with fail
        rw [HO.out]
        dsimp only
        rw [HJE.out]
        go_ret2
        exact ⟨rfl, HG.out⟩
      · have HO := Lib.hid (JO_no (P := P) (.inr (by omega)))
        obtain ⟨J, hJ⟩ : ∃ J, bs (jr 0 P) = J := ⟨_, rfl⟩
        have hJz : (6000 : Int) < (J.size : Int) := by rw [← hJ, bs_size]; omega
        rw [hJ] at HJ
        go_wp2_with fail
        refine HJ.out.mono ?_
        rintro e w1 ⟨rfl, hg⟩
        have HG := Lib.hid hg
        clear hg
        go_wp2_with fail
        rw [HO.out]
        go_ret2
        exact ⟨rfl, HG.out⟩

end Go.Proofs.YthlfclnfkgiddaaDoor.jouS
