/- JournalOf, by the model. -/
import Derived.Test.YthlfclnfkgiddaaDoorRows
import Derived.Test.YthlfclnfkgiddaaDoorSlc
import Derived.Test.YthlfclnfkgiddaaDoorSmall
import Derived.Test.YthlfclnfkgiddaaDoorWordN
import Derived.Test.YthlfclnfkgiddaaDoorNumN
import Derived.Test.YthlfclnfkgiddaaDoorWordS
import Derived.Test.YthlfclnfkgiddaaDoorCheckC
import Derived.Test.YthlfclnfkgiddaaDoorDecNum
import Derived.Test.YthlfclnfkgiddaaDoorDec
import Derived.Test.YthlfclnfkgiddaaDoorTextNum
import Derived.Test.YthlfclnfkgiddaaDoorReadNum
import Derived.Test.YthlfclnfkgiddaaDoorCutN
import Derived.Test.YthlfclnfkgiddaaDoorCutT
import Derived.Test.YthlfclnfkgiddaaDoorJouN
import Derived.Test.YthlfclnfkgiddaaDoorStrL
import Derived.WalkKit
import Derived.ProofKit
import Derived.OpenShut
import Derived.ShutString
import Derived.ChangeOld
import Derived.Below
import Derived.Lib.Hide
import Derived.BigQuiet
import Derived.Deep.QuietTactic
import Derived.WalkLawsBesides
import Derived.Outline
import Derived.Deep.QuietTactic
import Derived.BigQuiet
import Derived.Deep.LoopGhost
import Derived.Deep.RegionWith
import Derived.Deep.RegionHeld3
import Derived.Lib.Strings
namespace Go.Proofs.YthlfclnfkgiddaaDoor.jouM
open Go.ChangeShapes Go.WideShapes Go.ChangeAt Go.RowKit
open Go.ChangeMaps (open_string shut_string)
set_option linter.unusedVariables false
open Go Go.RowKit
open Go.Proofs.YthlfclnfkgiddaaDoor.slc Go.Proofs.YthlfclnfkgiddaaDoor.small Go.Proofs.YthlfclnfkgiddaaDoor.wordN Go.Proofs.YthlfclnfkgiddaaDoor.wordS Go.Proofs.YthlfclnfkgiddaaDoor.numN Go.Proofs.YthlfclnfkgiddaaDoor.dec Go.Proofs.YthlfclnfkgiddaaDoor.cutN Go.Proofs.YthlfclnfkgiddaaDoor.cutT Go.Proofs.YthlfclnfkgiddaaDoor.jouN Go.Proofs.YthlfclnfkgiddaaDoor.strL

theorem jr_bd {c : Int} (h : 0 ≤ c ∧ c ≤ 65002) (P : List (List UInt8)) : (jr c P).length ≤ lenS P + 19 * P.length := by
  induction P generalizing c with
  | nil => simp [jr, lenS]
  | cons x t ih =>
    have h1 := ih (chk_bd c h x)
    have h2 := (ent_len h x).2
    simp only [jr, lenS, List.length_append, List.map_cons, List.sum_cons, List.length_cons] at h1 ⊢
    omega
theorem lenS_mem {P : List (List UInt8)} {l : List UInt8} (h : l ∈ P) : l.length ≤ lenS P := by
  induction P with
  | nil => cases h
  | cons x t ih =>
    unfold lenS at ih ⊢
    rw [List.map_cons, List.sum_cons]
    rcases List.mem_cons.1 h with rfl | h
    · omega
    · have := ih h
      omega
theorem bs_ent (O : List UInt8) (c : Int) (l : List UInt8) : bs O ++ (((⟨(Lib.itoa (chk c l)).toArray⟩ : ByteArray) ++ { data := #[32] }) ++ bs l ++ { data := #[10] }) = bs (O ++ ent c l) := by
  have h1 : ({ data := #[32] } : ByteArray) = bs [32] := rfl
  have h2 : ({ data := #[10] } : ByteArray) = bs [10] := rfl
  have h3 : (⟨(Lib.itoa (chk c l)).toArray⟩ : ByteArray) = bs (Lib.itoa (chk c l)) := rfl
  rw [h1, h2, h3, bs_app, bs_app, bs_app, bs_app]
  rfl
set_option maxHeartbeats 1000000 in
set_option maxRecDepth 100000 in
theorem jour_m (A : Option Addr) (c B : Nat) (P : List (List UInt8)) (w : World) (hb : P.length + lenS P ≤ 1048576) (hB : B ≤ w.heap.size) (ha : Rd w B A P.length (stf P)) :
    Calls Tryd.prog 91 #[.slice A P.length c] w fun e w' => e = .returned (.string (bs (jr 0 P))) ∧ w.grownBy w' none := by
  obtain ⟨n, hN⟩ : ∃ n, P.length = n := ⟨_, rfl⟩
  have hbd := jr_bd (c := 0) (by omega) P
  have hle := fun k => jr_le (c := 0) P k
  rw [hN] at ha hb hbd ⊢
  have HNL := Lib.hid hN
  have HLE := Lib.hid (fun k => Nat.le_trans (hle k) (show (jr 0 P).length ≤ 30000000 by omega))
  have hlen : ∀ l ∈ P, l.length ≤ 1048576 := fun l hl => by
    have : l.length ≤ lenS P := by
      exact lenS_mem hl
    omega
  have HLN := Lib.hid hlen
  clear hle hbd hlen
  go_enter Tryd.func91, Tryd.ntmps91
  go_wp2_with fail
  go_loopw [3, 4, 5] (fun o m i wr => ∃ k : Nat, k ≤ n ∧ i = .int .i64 k ∧ o = .string (bs (jr 0 (P.take k))) ∧ m = .int .i64 (ckl 0 (P.take k)) ∧ w.grownBy wr none) (fun _ _ i _ => n - (intOf i).toNat)
  case atStart => exact ⟨0, Nat.zero_le _, rfl, rfl, rfl, World.grownBy.refl _ _⟩
  case round =>
    obtain ⟨k, hk, rfl, rfl, rfl, hg⟩ := hrel
    by_cases hlt : k < n
    · have hkP : k < P.length := by rw [HNL.out]; exact hlt
      obtain ⟨ad, rfl, _, hc⟩ := (ha.kept0 hg hB).at_ hlt
      have hst : stf P k = .string (bs P[k]) := by unfold stf; simp [List.getD, hkP]
      rw [hst] at hc
      have hcb := ckl_bd (c := 0) (by omega) (P.take k)
      have hsn := jr_snoc 0 (P.take k) P[k]
      have hcn := ckl_snoc 0 (P.take k) P[k]
      rw [← List.take_succ_eq_append_getElem hkP] at hsn hcn
      have hO := HLE.out k
      have hl1 := HLN.out _ (List.getElem_mem hkP)
      have hck := fun w => checkC.spec_check (ckl 0 (P.take k)) (bs P[k]) w hcb.1 hcb.2 (by rw [bs_size]; unfold maxLen; omega)
      rw [bs_list] at hck
      have hc2 := chk_bd _ hcb P[k]
      have hit := itoa_small hc2
      have hbe := bs_ent (jr 0 (P.take k)) (ckl 0 (P.take k)) P[k]
      rw [← hsn] at hbe
      have hdc := fun w => dec_spec (chk (ckl 0 (P.take k)) P[k]) w (by omega) (by omega)
      rw [← hcn] at hck hdc hbe
      have HBE := Lib.hid hbe
      have HCK := Lib.hid hck
      have HDC := Lib.hid hdc
      have hcz : 0 ≤ ckl 0 (P.take (k + 1)) := by rw [hcn]; exact hc2.1
      rw [← hcn] at hit
      obtain ⟨c1, hc1⟩ : ∃ c, ckl 0 (P.take (k + 1)) = c := ⟨_, rfl⟩
      rw [hc1] at HBE HCK HDC hcz hit
      have HC1 := Lib.hid hc1
      clear hc1 hcn hsn hck hdc hbe
      generalize ckl 0 (P.take k) = c0 at *
      obtain ⟨O, hOe⟩ : ∃ O, bs (jr 0 (P.take k)) = O := ⟨_, rfl⟩
      obtain ⟨L, hLe⟩ : ∃ L, bs P[k] = L := ⟨_, rfl⟩
      obtain ⟨D, hDe⟩ : ∃ D, (⟨(Lib.itoa c1).toArray⟩ : ByteArray) = D := ⟨_, rfl⟩
      have zO : O.size ≤ 30000000 := by rw [← hOe, bs_size]; exact hO
      have zL : L.size ≤ 1048576 := by rw [← hLe, bs_size]; exact hl1
      have zD : D.size ≤ 17 := by rw [← hDe]; have : (⟨(Lib.itoa c1).toArray⟩ : ByteArray).size = (Lib.itoa c1).length := by simp [ByteArray.size]
                                  omega
      rw [hOe, hLe, hDe] at HBE
      rw [hLe] at HCK hc
      rw [hDe] at HDC
      rw [hOe]
      have HG := Lib.hid hg
      have HC := Lib.hid hc
      clear hst hit hc2 hcb hO hl1 hOe hLe hDe
      go_wp2_with fail
      refine (HCK.out _).mono ?_
      rintro e w' ⟨rfl, rfl⟩
      go_wp2_with fail
      have hcd : wr.drew.cell? (ad.add k) = some (.string L) := hc
      have k0 : (0 : Int) ≤ (k : Int) := by omega
      have k1 : (k : Int) < (n : Int) := by omega
      have z1 : ¬ 9223372036854775807 < D.size + 1 := by omega
      have z2 : ¬ 9223372036854775807 < D.size + 1 + L.size := by omega
      have z3 : ¬ 9223372036854775807 < D.size + 1 + L.size + 1 := by omega
      have z4 : ¬ 9223372036854775807 < O.size + (D.size + 1 + L.size + 1) := by omega
      clear hc hcz
      go_region_with (go_at_call 94; refine (HDC.out _).mono ?_; rintro e w5 ⟨rfl, hg5⟩; have hc5 := hg5.cell hcd (by simp))
      all_goals
        go_wp2_with fail
        rw [HBE.out]
        exact ⟨⟨k + 1, by omega, by go_num, rfl, by rw [HC1.out], (HG.out.trans (gb_drewN wr 1 none)).trans hg5⟩, by simp [intOf]; omega⟩
    · obtain rfl : k = n := by omega
      rw [List.take_of_length_le (by rw [HNL.out]; exact Nat.le_refl _)]
      go_wp2_with fail
      go_ret
      exact ⟨rfl, hg⟩

end Go.Proofs.YthlfclnfkgiddaaDoor.jouM
