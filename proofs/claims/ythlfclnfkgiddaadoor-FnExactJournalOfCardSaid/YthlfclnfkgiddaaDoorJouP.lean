/- JournalOf, by the program, whole. -/
import Derived.Test.YthlfclnfkgiddaaDoorRows
import Derived.Test.YthlfclnfkgiddaaDoorSlc
import Derived.Test.YthlfclnfkgiddaaDoorSmall
import Derived.Test.YthlfclnfkgiddaaDoorWordN
import Derived.Test.YthlfclnfkgiddaaDoorNumN
import Derived.Test.YthlfclnfkgiddaaDoorWordS
import Derived.Test.YthlfclnfkgiddaaDoorCheckC
import Derived.Test.YthlfclnfkgiddaaDoorDecNum
import Derived.Test.YthlfclnfkgiddaaDoorDec
import Derived.Test.YthlfclnfkgiddaaDoorFmt
import Derived.Test.YthlfclnfkgiddaaDoorDecI
import Derived.Test.YthlfclnfkgiddaaDoorTextNum
import Derived.Test.YthlfclnfkgiddaaDoorReadNum
import Derived.Test.YthlfclnfkgiddaaDoorCutN
import Derived.Test.YthlfclnfkgiddaaDoorCutT
import Derived.Test.YthlfclnfkgiddaaDoorJouN
import Derived.Test.YthlfclnfkgiddaaDoorStrL
import Derived.Test.YthlfclnfkgiddaaDoorJouM
import Derived.Test.YthlfclnfkgiddaaDoorJouS
import Derived.Test.YthlfclnfkgiddaaDoorBuildLaid
import Derived.Test.YthlfclnfkgiddaaDoorContLaid
import Derived.Test.YthlfclnfkgiddaaDoorJouI
import Derived.WalkKit
import Derived.ProofKit
import Derived.OpenShut
import Derived.ShutString
import Derived.ChangeOld
import Derived.Below
import Derived.Lib.Hide
import Derived.BigQuiet
import Derived.Deep.QuietTactic
import Derived.WalkLawsBesides
import Derived.Outline
import Derived.Deep.QuietTactic
import Derived.BigQuiet
import Derived.Deep.LoopGhost
import Derived.Deep.RegionWith
import Derived.Deep.RegionHeld3
import Derived.Lib.Strings
import Derived.Lib.IndexLaws
namespace Go.Proofs.YthlfclnfkgiddaaDoor.jouP
open Go.ChangeShapes Go.WideShapes Go.ChangeAt Go.RowKit
open Go.ChangeMaps (open_string shut_string)
set_option linter.unusedVariables false
open Go Go.RowKit
open Go.Proofs.YthlfclnfkgiddaaDoor.slc Go.Proofs.YthlfclnfkgiddaaDoor.small Go.Proofs.YthlfclnfkgiddaaDoor.wordN Go.Proofs.YthlfclnfkgiddaaDoor.wordS Go.Proofs.YthlfclnfkgiddaaDoor.numN Go.Proofs.YthlfclnfkgiddaaDoor.decI Go.Proofs.YthlfclnfkgiddaaDoor.cutN Go.Proofs.YthlfclnfkgiddaaDoor.cutT Go.Proofs.YthlfclnfkgiddaaDoor.jouN Go.Proofs.YthlfclnfkgiddaaDoor.strL Go.Proofs.YthlfclnfkgiddaaDoor.jouM Go.Proofs.YthlfclnfkgiddaaDoor.jouS Go.Proofs.YthlfclnfkgiddaaDoor.buildLaid Go.Proofs.YthlfclnfkgiddaaDoor.contLaid Go.Proofs.YthlfclnfkgiddaaDoor.jouI

/-- The builder in the block b holds a journal. -/
def Jb (b : Nat) (l : List UInt8) (w : World) : Prop := Lib.IsBuilder 79 5 b b (Lib.byteCells l) w
theorem Jb.kept {b : Nat} {l : List UInt8} {w w' : World} (h : Jb b l w) (hg : w.grownBy w' none) : Jb b l w' := isb_kept h hg
theorem Jb.lt {b : Nat} {l : List UInt8} {w : World} (h : Jb b l w) : b < w.heap.size := h.elim (fun x => x.lt) (fun x => x.lt)
theorem jb_len {b : Nat} {l : List UInt8} {k : Nat} (hk : l.length = k) (w : World) (h : Jb b l w) : Calls Tryd.prog 56 #[.pointer (some ⟨b, 0, none⟩)] w fun e w' => e = .returned (.int .i64 (k : Int)) ∧ w = w' :=
  (Builder_Len b b _ w h).mono fun e w' ⟨h1, h2⟩ => ⟨by rw [h1, Lib.byteCells_length, hk], h2.symm⟩
theorem jb_write {b : Nat} {l m : List UInt8} (hl : l.length ≤ 10000 ∧ m.length ≤ 10000) (w : World) (h : Jb b l w) : Calls Tryd.prog 57 #[.pointer (some ⟨b, 0, none⟩), .string (bs m)] w fun e w' => (∃ v, e = .returned v) ∧ Jb b (l ++ m) w' ∧ Below b w w' :=
  (Builder_WriteString b b _ (bs m) w h (by rw [Lib.byteCells_length, bs_size]; omega) (Nat.le_of_lt h.lt)).mono fun e w' ⟨h1, h2, h3⟩ => ⟨⟨_, h1⟩, by rw [cells_app] at h2; exact .inr h2, h3⟩
theorem jb_text {b : Nat} {l : List UInt8} (w : World) (h : Jb b l w) : Calls Tryd.prog 58 #[.pointer (some ⟨b, 0, none⟩)] w fun e w' => e = .returned (.string (bs l)) ∧ Below b w w' :=
  (Builder_String_any b b l w h (Nat.le_of_lt h.lt)).mono fun e w' ⟨h1, h2⟩ => ⟨h1, h2⟩
theorem jb_new (w : World) : Jb w.heap.size [] (w.alloc (.cells #[.pointer none, .slice none 0 0] 79)) :=
  .inl ⟨Nat.le_refl _, .slice none 0 0, heap_alloc_new w _, World.ownsRow_nil _ _ _ _, by simp [Value.ownBlock]⟩
set_option maxHeartbeats 2000000 in
set_option maxRecDepth 100000 in
theorem jo_i (A : Option Addr) (c B : Nat) (P : List (List UInt8)) (w : World) (hb : P.length + lenS P ≤ 1048576) (hB : B ≤ w.heap.size) (ha : Rd w B A P.length (stf P)) (ht : TabW w) :
    Calls Tryd.prog 14 #[.slice A P.length c] w fun e w' => e = .returned (.tuple #[.string (bs (JO P).1), .bool (JO P).2]) ∧ w.grownBy w' none := by
  obtain ⟨n, hN⟩ : ∃ n, P.length = n := ⟨_, rfl⟩
  have HLN := Lib.hid (fun l (hl : l ∈ P) => Nat.le_trans (lenS_mem hl) (show lenS P ≤ 1048576 by omega))
  rw [hN] at ha hb ⊢
  have HNL := Lib.hid hN
  have HLE := Lib.hid (fun k => jr_le (c := 0) P k)
  have gN := World.grownBy_alloc w (.cells #[.pointer none, .slice none 0 0] 79) none
  have HJ0 := Lib.hid (And.intro (jb_new w) (gb_below gN))
  have HA := Lib.hid (fun (w' : World) (bl : Below w.heap.size w w') => And.intro (ha.below (bl.mono hB)) (ht.kept (gb_of_below bl)))
  have HGB := Lib.hid (fun (w' : World) (h : Below w.heap.size w w') => gb_of_below h)
  have HBG := Lib.hid (fun (w' : World) (h : w.grownBy w' none) => (show Below w.heap.size w w' from gb_below h))
  clear gN ha ht
  generalize hbq : w.heap.size = b at *
  go_enter Tryd.func14, Tryd.ntmps14
  go_wp2_with fail
  rw [hbq] at *
  generalize w.alloc (.cells #[.pointer none, .slice none 0 0] 79) = w0 at *
  go_loopw [5, 11] (fun m i wr => ∃ k : Nat, k ≤ n ∧ i = .int .i64 k ∧ m = .int .i64 (ckl 0 (P.take k)) ∧ Jb b (jr 0 (P.take k)) wr ∧ Below b w wr ∧ ¬ nl (P.take k) ∧ (jr 0 (P.take k)).length ≤ 6000) (fun _ i _ => n - (intOf i).toNat)
  case atStart => exact ⟨0, Nat.zero_le _, rfl, rfl, HJ0.out.1, HJ0.out.2, fun ⟨l, hl, _⟩ => by simp at hl, by simp [jr]⟩
  case round =>
    obtain ⟨k, hk, rfl, rfl, hjb, hbl, hnl, hlen⟩ := hrel
    obtain ⟨hr, htw⟩ := HA.out wr hbl
    have hbs := hjb.lt
    by_cases hlt : k < n
    · have hkP : k < P.length := by rw [HNL.out]; exact hlt
      obtain ⟨ad, rfl, _, hc⟩ := hr.at_ hlt
      have hst : stf P k = .string (bs P[k]) := by unfold stf; simp [List.getD, hkP]
      rw [hst] at hc
      have hcb := ckl_bd (c := 0) (by omega) (P.take k)
      have hsn := jr_snoc 0 (P.take k) P[k]
      have hcn := ckl_snoc 0 (P.take k) P[k]
      rw [← List.take_succ_eq_append_getElem hkP] at hsn hcn
      have hl1 := HLN.out _ (List.getElem_mem hkP)
      have hel := ent_len hcb P[k]
      have HEN := Lib.hid (ent_i P[k] (ckl 0 (P.take k)) wr hcb hl1 htw)
      have hle1 := HLE.out (k + 1)
      have hnx := fun h => nl_take hkP hnl h
      have hme := List.getElem_mem hkP
      obtain ⟨d, hd⟩ : ∃ d, decide (0 ≤ Lib.indexByte P[k] 10) = d := ⟨_, rfl⟩
      obtain ⟨hn1, hn2⟩ := has_nl d hd
      have HCO := Lib.hid (fun w => (show Calls Tryd.prog 55 #[.string (bs P[k]), .string { data := #[10] }] w fun e w' => e = .returned (.bool d) ∧ w = w' from by
        have h := strings_Contains_one (bs P[k]) 10 w
        rw [bs_list, hd] at h
        exact h.mono fun e w' ⟨h1, h2⟩ => ⟨h1, h2.symm⟩))
      rw [← hcn] at HEN
      have HCN := Lib.hid (show ckl 0 (P.take (k + 1)) = ckl 0 (P.take (k + 1)) from rfl)
      generalize hc1 : ckl 0 (P.take (k + 1)) = c1 at *
      generalize hc0 : ckl 0 (P.take k) = c0 at *
      obtain ⟨E, hE⟩ : ∃ E, ent c0 P[k] = E := ⟨_, rfl⟩
      rw [hE] at HEN hsn hel
      generalize hL : P[k] = L at *
      obtain ⟨z, hz⟩ : ∃ z, (jr 0 (P.take k)).length = z := ⟨_, rfl⟩
      rw [hz] at hlen
      obtain ⟨y, hy⟩ : ∃ y, E.length = y := ⟨_, rfl⟩
      have hEs : (bs E).size = y := by rw [bs_size, hy]
      have hsl : (jr 0 (P.take (k + 1))).length = z + y := by rw [hsn, List.length_append, hz, hy]
      have HJ := Lib.hid (And.intro hjb hbl)
      have HLN2 := Lib.hid (fun w h => jb_len (b := b) hz w h)
      have HSN := Lib.hid hsn
      have HC1 := Lib.hid hc1
      have HEL := Lib.hid (And.intro hel hy)
      have HZ := Lib.hid hz
      obtain ⟨v, hv⟩ : ∃ v, z + y = v := ⟨_, rfl⟩
      have WZ := Lib.hid (And.intro (show (z : Int) + (y : Int) = (v : Int) from by omega) (show IntKind.i64.wrap ((z : Int) + (y : Int)) = (v : Int) from by rw [IntKind.wrap_i64]; omega))
      have WV := Lib.hid (show IntKind.i64.wrap (v : Int) = (v : Int) from by rw [IntKind.wrap_i64]; omega)
      obtain ⟨TE, hTE⟩ : ∃ TE, bs E = TE := ⟨_, rfl⟩
      obtain ⟨TL, hTL⟩ : ∃ TL, bs L = TL := ⟨_, rfl⟩
      have HTE := Lib.hid hTE
      rw [hTE] at HEN hEs
      rw [hTL] at HEN HCO hc
      have k0 : (0 : Int) ≤ (k : Int) := by omega
      have k1 : (k : Int) < (n : Int) := by omega
      have HOUT := Lib.hid (And.intro hn1 (And.intro hn2 (And.intro hnx (And.intro hme (And.intro hle1 hsl)))))
      clear hst hcb hsn hcn hl1 hel hle1 hnx hme hn1 hn2 hd hjb hbl hnl hr htw hE hTE hTL hz hy hsl hc1 hc0 HCN hL
      go_wp2_with fail
      refine HEN.out.mono ?_
      rintro e w1 ⟨rfl, g1⟩
      have HJ1 := Lib.hid (And.intro (HJ.out.1.kept g1) (HBG.out _ ((HGB.out _ HJ.out.2).trans g1)))
      clear g1
      go_wp2_with fail
      refine (HCO.out _).mono ?_
      rintro e w' ⟨rfl, rfl⟩
      cases d with
      | true =>
        have HO := Lib.hid (JO_no (P := P) (.inl ⟨_, HOUT.out.2.2.2.1, HOUT.out.1 rfl⟩))
        go_wp2_with fail
        rw [HO.out]
        go_ret2
        exact ⟨rfl, HGB.out _ HJ1.out.2⟩
      | false =>
        by_cases h6 : z + y ≤ 6000
        · have h6' : ¬ (6000 : Int) < (v : Int) := by omega
          go_wp2_with fail
          refine (HLN2.out _ HJ1.out.1).mono ?_
          rintro e w' ⟨rfl, rfl⟩
          obtain ⟨wz, wz2⟩ := WZ.out
          have wz3 := WV.out
          go_wp2_with fail
          clear wz wz2 wz3
          have HW := Lib.hid (jb_write (m := E) (by rw [HZ.out, HEL.out.2]; omega) _ HJ1.out.1)
          rw [HTE.out] at HW
          refine HW.out.mono ?_
          rintro e w2 ⟨⟨v, rfl⟩, hj2, hb2⟩
          have HN2 := Lib.hid (And.intro hj2 (And.intro (HJ1.out.2.trans hb2) (HOUT.out.2.2.1 (HOUT.out.2.1 (by first | rfl | trivial)))))
          clear hj2 hb2
          go_wp2_with fail
          go_roundw
          case rel => exact ⟨k + 1, by omega, by go_num, by rw [HC1.out], by rw [HSN.out]; exact HN2.out.1, HN2.out.2.1, HN2.out.2.2, by rw [HOUT.out.2.2.2.2.2]; exact h6⟩
          case measure => simp [intOf]; omega
        · have h6' : (6000 : Int) < (v : Int) := by omega
          have HO := Lib.hid (JO_no (P := P) (.inr (by have := HOUT.out.2.2.2.2; omega)))
          go_wp2_with fail
          refine (HLN2.out _ HJ1.out.1).mono ?_
          rintro e w' ⟨rfl, rfl⟩
          obtain ⟨wz, wz2⟩ := WZ.out
          have wz3 := WV.out
          go_wp2_with fail
          rw [HO.out]
          go_ret2
          exact ⟨rfl, HGB.out _ HJ1.out.2⟩
    · obtain rfl : k = n := by omega
      rw [List.take_of_length_le (by rw [HNL.out]; exact Nat.le_refl _)] at hjb hnl hlen
      have HO := Lib.hid (JO_yes hnl hlen)
      have HT := Lib.hid (And.intro (jb_text wr hjb) hbl)
      clear hjb hnl hlen hbl hr htw
      generalize hTJ : bs (jr 0 P) = TJ at HT
      go_wp2_with fail
      refine HT.out.1.mono ?_
      rintro e w1 ⟨rfl, hb1⟩
      have HB1 := Lib.hid (HT.out.2.trans hb1)
      clear hb1
      go_wp2_with fail
      rw [HO.out]
      dsimp only
      rw [hTJ]
      go_ret2
      exact ⟨rfl, HGB.out _ HB1.out⟩

end Go.Proofs.YthlfclnfkgiddaaDoor.jouP
