/- The parts of a text, by the model. -/
import Derived.Test.YthlfclnfkgiddaaDoorRows
import Derived.Test.YthlfclnfkgiddaaDoorSlc
import Derived.Test.YthlfclnfkgiddaaDoorSmall
import Derived.Test.YthlfclnfkgiddaaDoorWordN
import Derived.Test.YthlfclnfkgiddaaDoorNumN
import Derived.Test.YthlfclnfkgiddaaDoorWordS
import Derived.Test.YthlfclnfkgiddaaDoorDecNum
import Derived.Test.YthlfclnfkgiddaaDoorTextNum
import Derived.Test.YthlfclnfkgiddaaDoorReadNum
import Derived.Test.YthlfclnfkgiddaaDoorCutN
import Derived.WalkKit
import Derived.ProofKit
import Derived.OpenShut
import Derived.ShutString
import Derived.ChangeOld
import Derived.Below
import Derived.Lib.Hide
import Derived.BigQuiet
import Derived.Deep.QuietTactic
import Derived.WalkLawsBesides
import Derived.Outline
import Derived.Deep.QuietTactic
import Derived.BigQuiet
import Derived.Deep.LoopGhost
import Derived.Deep.RegionWith
import Derived.Deep.RegionHeld3
import Derived.Lib.Strings
namespace Go.Proofs.YthlfclnfkgiddaaDoor.cutT
open Go.ChangeShapes Go.WideShapes Go.ChangeAt Go.RowKit
open Go.ChangeMaps (open_string shut_string)
set_option linter.unusedVariables false
open Go Go.RowKit
open Go.Proofs.YthlfclnfkgiddaaDoor.slc Go.Proofs.YthlfclnfkgiddaaDoor.small Go.Proofs.YthlfclnfkgiddaaDoor.wordN Go.Proofs.YthlfclnfkgiddaaDoor.wordS Go.Proofs.YthlfclnfkgiddaaDoor.cutN

theorem infoS : (Tryd.prog.info? 9).map (fun i => (i.zero, i.size, i.bytes)) = some (some (.string ByteArray.empty), 1, 16) := by kernel_rfl
/-- A text more. -/
theorem appT {base n : Nat} {W : World} {v : Value} {P : List (List UInt8)} (p : List UInt8) (x : ByteArray) (hx : x.data.toList = p) (hown : W.ownsRow base 9 1 v n (st8 P)) (hn : n ≤ 10000000) (hb : base ≤ W.heap.size) :
    ∃ A6 c6 w6, (appS #[24, 24] 24 #[v, .slice (some ⟨W.heap.size, 0, none⟩) 1 1]).run Tryd.prog (W.alloc (.cells #[.string x] 9)) = .ok (.slice A6 (n + 1) c6) w6 ∧
      w6.ownsRow base 9 1 (.slice A6 (n + 1) c6) (n + 1) (st8 (P ++ [p])) ∧ (W.alloc (.cells #[.string x] 9)).grownBy w6 v.ownBlock := by
  obtain rfl : x = bs p := bs_eq hx
  obtain ⟨i0, hi0, hz0, hz1, hz2⟩ := info_parts infoS
  obtain ⟨v6, w6, hrun, r1, r2, _⟩ := run_append_own (P := Tryd.prog) (W.alloc (.cells #[.string (bs p)] 9)) base 24 24 9 i0 (.string ByteArray.empty) 1 16 Tryd.underlying24 hi0 hz0 hz1 hz2 rfl (by decide) _ _ _ (hown.alloc _) ⟨W.heap.size, 0, none⟩ 1 1 (st8 [p]) rfl (World.news_of_block (cs := #[.string (bs p)]) (t := 9) (fr := (0, 0)) (heap_alloc_new W _)) (st8_one _) (by unfold maxLen; omega) (by omega) (by simp; omega)
  obtain ⟨A6, c6, rfl⟩ := row_slice r1
  rw [← st8_app] at r1
  exact ⟨A6, c6, w6, hrun, r1, r2⟩
theorem sub_list (s : ByteArray) (f k : Nat) : (s.extract f k).data.toList = (s.data.toList.take k).drop f := by
  rw [Lib.extract_data, List.drop_take]
theorem drop_at {L : List UInt8} {k : Nat} (h : k < L.length) : L.drop k = L[k] :: L.drop (k + 1) := List.drop_eq_getElem_cons h
theorem cur_snoc {L : List UInt8} {k f : Nat} (h : k < L.length) (hf : f ≤ k) : (L.take (k + 1)).drop f = (L.take k).drop f ++ [L[k]] := by
  rw [List.take_succ_eq_append_getElem h, List.drop_append_of_le_length (by rw [List.length_take]; omega)]
attribute [local go_sem ↓] app_stop
set_option maxHeartbeats 2000000 in
set_option maxRecDepth 100000 in
theorem cut_s (s : ByteArray) (c : UInt8) (w : World) (hs : s.size ≤ 1048576) :
    Calls Tryd.prog 120 #[.string s, .int .u8 (c.toNat : Int)] w fun e w' => (∃ A d, e = .returned (.slice A (cw c [] s.data.toList).length d) ∧ w'.ownsRow w.heap.size 9 1 (.slice A (cw c [] s.data.toList).length d) (cw c [] s.data.toList).length (st8 (cw c [] s.data.toList))) ∧ w.grownBy w' none := by
  obtain ⟨N, hN⟩ : ∃ N, s.size = N := ⟨_, rfl⟩
  have hL : s.data.toList.length = N := by rw [← hN]; simp
  have g0 := World.grownBy_alloc w (.cells #[] 9) none
  have h0 := World.ownsRow_lit (base := w.heap.size) (e := 9) (size := 1) w #[] 0 (Nat.le_refl _) (Nat.zero_le _) rfl
  have H0 := Lib.hid (And.intro h0 g0)
  have HL := Lib.hid hL
  clear h0 g0 hL
  go_enter Tryd.func120, Tryd.ntmps120
  go_wp2_with fail
  go_loopw [5, 6, 7] (fun o f i wr => ∃ (k fr : Nat) (D : List (List UInt8)) (A : Option Addr) (d : Nat), k ≤ N + 1 ∧ i = .int .i64 k ∧ f = .int .i64 fr ∧ o = .slice A D.length d ∧ wr.ownsRow w.heap.size 9 1 (.slice A D.length d) D.length (st8 D) ∧ w.grownBy wr none ∧ D.length ≤ k ∧
    (k ≤ N → fr ≤ k ∧ D ++ cw c ((s.data.toList.take k).drop fr) (s.data.toList.drop k) = cw c [] s.data.toList) ∧ (k = N + 1 → D = cw c [] s.data.toList)) (fun _ _ i _ => N + 2 - (intOf i).toNat)
  case atStart => exact ⟨0, 0, [], _, _, Nat.zero_le _, rfl, rfl, rfl, H0.out.1, H0.out.2, Nat.le_refl _, fun _ => ⟨Nat.le_refl _, by simp⟩, fun h => by omega⟩
  case round =>
    obtain ⟨k, fr, D, A, d, hk, rfl, rfl, rfl, hown, hg, hD, hin, hend⟩ := hrel
    by_cases hkN : k ≤ N
    · obtain ⟨hf, hp⟩ := hin hkN
      have k0 : (k : Int) ≤ (N : Int) := by omega
      have f0 : (fr : Int) ≤ (k : Int) := by omega
      obtain ⟨A6, c6, w6, hrun, z1, z2⟩ := appT ((s.data.toList.take k).drop fr) (s.extract fr k) (sub_list s fr k) hown (by omega) hg.size
      have HZ := Lib.hid (And.intro z1 (gb_new (hg.trans (World.grownBy_alloc wr (.cells #[.string (s.extract fr k)] 9) none)) z2 (fun g e => (hown.lt g e).1)))
      have HO := Lib.hid (And.intro hown hg)
      have HP := Lib.hid hp
      clear hin hend hp z1 z2 hown hg
      by_cases hlt : k < N
      · have k1 : ¬ (k : Int) = (N : Int) := by omega
        have k2 : ((k : Int) == (N : Int)) = false := by rw [beq_eq_false_iff_ne]; exact k1
        have hlt' : k < s.size := by omega
        have hkl : k < s.data.toList.length := by rw [HL.out]; exact hlt
        have hb : (s[k].toNat : Int) = (s.data.toList[k].toNat : Int) := rfl
        have HDA := Lib.hid (drop_at hkl)
        have HCS := Lib.hid (cur_snoc hkl hf)
        obtain ⟨x, hx⟩ : ∃ x, s.data.toList[k] = x := ⟨_, rfl⟩
        rw [hx] at hb HDA HCS
        by_cases hc : x = c
        · subst hc
          clear hx
          go_wp2_with fail
          refine ⟨⟨k + 1, k + 1, D ++ [(s.data.toList.take k).drop fr], A6, c6, by omega, by go_num, by go_num, by rw [List.length_append]; rfl, by rw [List.length_append]; exact HZ.out.1, HZ.out.2, by rw [List.length_append, List.length_singleton]; omega, fun _ => ⟨Nat.le_refl _, ?_⟩, fun h => by omega⟩, by simp [intOf]; omega⟩
          rw [← HP.out, HDA.out, cw, if_pos rfl, List.drop_of_length_le (i := k + 1) (by rw [List.length_take]; omega), List.append_assoc]
          rfl
        · have hxc : ¬ (x.toNat : Int) = (c.toNat : Int) := fun e => hc (UInt8.toNat_inj.1 (by omega))
          have hxd : ((x.toNat : Int) == (c.toNat : Int)) = false := by rw [beq_eq_false_iff_ne]; exact hxc
          clear hx
          go_wp2_with fail
          refine ⟨⟨k + 1, fr, D, A, d, by omega, by go_num, rfl, rfl, HO.out.1, HO.out.2, by omega, fun _ => ⟨by omega, ?_⟩, fun h => by omega⟩, by simp [intOf]; omega⟩
          rw [← HP.out, HDA.out, cw, if_neg hc, HCS.out]
      · obtain rfl : k = N := by omega
        have hdr : s.data.toList.drop k = [] := List.drop_of_length_le (by rw [HL.out]; exact Nat.le_refl _)
        have HDR := Lib.hid hdr
        clear hdr
        go_wp2_with fail
        refine ⟨⟨k + 1, k + 1, D ++ [(s.data.toList.take k).drop fr], A6, c6, by omega, by go_num, by go_num, by rw [List.length_append]; rfl, by rw [List.length_append]; exact HZ.out.1, HZ.out.2, by rw [List.length_append, List.length_singleton]; omega, fun h => by omega, fun _ => ?_⟩, by simp [intOf]⟩
        rw [← HP.out, HDR.out, cw]
    · obtain rfl : k = N + 1 := by omega
      have hee := hend rfl
      have k0 : ¬ ((N + 1 : Nat) : Int) ≤ (N : Int) := by omega
      subst hee
      go_wp2_with fail
      go_ret
      exact ⟨⟨_, _, rfl, hown⟩, hg⟩

end Go.Proofs.YthlfclnfkgiddaaDoor.cutT
