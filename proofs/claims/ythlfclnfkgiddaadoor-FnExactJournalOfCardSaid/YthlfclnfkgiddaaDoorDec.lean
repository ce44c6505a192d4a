/- The decimal text of an integer, by the model. -/
import Derived.Test.YthlfclnfkgiddaaDoorRows
import Derived.Test.YthlfclnfkgiddaaDoorSlc
import Derived.Test.YthlfclnfkgiddaaDoorDecNum
import Derived.WalkKit
import Derived.ProofKit
import Derived.OpenShut
import Derived.ShutString
import Derived.ChangeOld
import Derived.Below
import Derived.Lib.Hide
import Derived.BigQuiet
import Derived.Deep.QuietTactic
import Derived.WalkLawsBesides
import Derived.Outline
import Derived.Deep.LoopGhost
import Derived.Lib.ItoaNum
import Derived.Laws.IdiomStrings
import Derived.OwnWalk
namespace Go.Proofs.YthlfclnfkgiddaaDoor.dec
open Go.ChangeShapes Go.WideShapes Go.ChangeAt Go.RowKit
open Go.ChangeMaps (open_string shut_string)
set_option linter.unusedVariables false
open Go Go.RowKit Go.Lib
open Go.Proofs.YthlfclnfkgiddaaDoor.slc Go.Proofs.YthlfclnfkgiddaaDoor.decNum

theorem infoB : (Tryd.prog.info? 5).map (fun i => (i.zero, i.size, i.bytes)) = some (some (.int .u8 0), 1, 1) := by kernel_rfl
/-- The cells of bytes. -/
def byt (l : List UInt8) : List Value := l.map fun b => Value.int .u8 (b.toNat : Int)
theorem byt_len (l : List UInt8) : (byt l).length = l.length := by simp [byt]
theorem byt_one (l : List UInt8) : ∀ u ∈ byt l, u.oneCell' = true := by
  intro u hu
  obtain ⟨b, _, rfl⟩ := List.mem_map.1 hu
  rfl
/-- A row of bytes of the call's own, by its cells. -/
theorem byt_cells {w : World} {base : Nat} {ad : Addr} {c : Nat} {l : List UInt8} {e : TypeId} (h : w.ownsRow base e 1 (.slice (some ad) l.length c) l.length (byt l)) : ∀ j u, (byt l)[j]? = some u → w.cell? (ad.add j) = some u := by
  intro j u hj
  have hjl : j < l.length := by rw [← byt_len]; exact (List.getElem?_eq_some_iff.1 hj).1
  obtain ⟨g, cap, hv, _, _⟩ := h.form (by omega)
  injection hv with h1 _ _
  injection h1 with h1
  subst h1
  exact h.cells rfl j u hj

theorem byt_get (l : List UInt8) (j : Nat) (hj : j < l.length) : (byt l)[j]? = some (.int .u8 (l[j].toNat : Int)) := by simp [byt, hj]
theorem byt_as {w : World} {base : Nat} {v : Value} {e : TypeId} {x : Int} {c : UInt8} {l : List UInt8} {n : Nat} (h : w.ownsRow base e 1 v n (#[Value.int .u8 x].toList ++ byt l)) (hx : x = (c.toNat : Int)) : w.ownsRow base e 1 v n (byt (c :: l)) := by
  subst hx; exact h
set_option maxHeartbeats 1000000 in
set_option maxRecDepth 100000 in
theorem dec_spec (n : Int) (w : World) (h0 : -9223372036854775808 ≤ n) (h1 : n ≤ 9223372036854775807) :
    Calls Tryd.prog 94 #[.int .i64 n] w fun e w' => e = .returned (.string ⟨(Lib.itoa n).toArray⟩) ∧ w.grownBy w' none := by
  obtain ⟨i0, hi0, hz0, hz1, hz2⟩ := info_parts infoB
  go_enter Tryd.func94, Tryd.ntmps94
  go_wp2
  go_loopw [3, 4] (fun s z wr => ∃ (r : Nat) (l : List UInt8) (ad : Addr) (c : Nat), s = .slice (some ad) l.length c ∧ z = .int .i64 (sgR n r) ∧ DInv n.natAbs r l ∧ DLen r l ∧ r ≤ n.natAbs ∧ wr.ownsRow w.heap.size 5 1 (.slice (some ad) l.length c) l.length (byt l) ∧ w.grownBy wr none)
    (fun s z _ => 20 - (match s with | .slice _ k _ => k | _ => 0))
  case atStart =>
    have h := World.ownsRow_lit (base := w.heap.size) (e := 5) (size := 1) w #[] 0 (Nat.le_refl _) (Nat.zero_le _) rfl
    refine ⟨n.natAbs, [], ⟨w.heap.size, 0, none⟩, 0, rfl, ?_,   .inl ⟨rfl, rfl⟩, ⟨Nat.zero_le _, ?_⟩, Nat.le_refl _, h, World.grownBy_alloc _ _ _⟩
    · refine congrArg (Value.int .i64) ?_
      unfold sgR; split <;> omega
    · show n.natAbs < 10 ^ 20
      omega
  case round =>
    obtain ⟨r, l, ad, c, rfl, rfl, hinv, hlen, hrn, hown, hg⟩ := hrel
    by_cases hgo : l = [] ∨ r ≠ 0
    · have hnext := hinv.step hgo
      obtain ⟨hlen2, hl19⟩ := hlen.step hgo (UInt8.ofNat (48 + r % 10))
      have hz := sgR_zero n r
      have hd := sgR_div n r
      have hm := sgR_mod n r
      have hm9 : r % 10 < 10 := Nat.mod_lt _ (by omega)
      have hzl : l.length = 0 ↔ l = [] := List.length_eq_zero_iff
      have HN := Lib.hid hnext
      have HL := Lib.hid hlen2
      clear hnext hlen2 hinv hlen
      generalize sgR n r = z at *
      have bq : -9223372036854775808 ≤ sgR n (r / 10) ∧ sgR n (r / 10) ≤ 9223372036854775807 := by unfold sgR; split <;> omega
      have hr10 : r / 10 ≤ n.natAbs := by omega
      generalize hqq : sgR n (r / 10) = q at hd bq
      have HQ := Lib.hid hqq
      obtain ⟨bq1, bq2⟩ := bq
      clear hqq
      generalize hdd : z.tmod 10 = d at hm
      have b1 : -10 < d := by omega
      have b2 : d < 10 := by omega
      have hc1 : ((l.length : Int) == 0) = true ∨ (((l.length : Int) == 0) = false ∧ (z != 0) = true) := by
        rcases hgo with hgo | hgo
        · left; simp [hgo]
        · by_cases hl : l = []
          · left; simp [hl]
          · right; exact ⟨by simp [hl], by simp; omega⟩
      have HM := Lib.hid hm
      have HZ := Lib.hid hz
      clear hm hz hgo hzl hm9
      rcases hc1 with hc1 | ⟨hc1, hc2⟩
      · by_cases hneg : d < 0
        · go_wp2_with (at_builtin; refine wpList_append_own _ rfl _ _ 22 rfl w.heap.size 5 i0 (.int .u8 0) 1 1 Tryd.underlying22 hi0 hz0 hz1 hz2 rfl (by decide) _ _ _ rfl (World.ownsRow_lit wr #[_] 1 hg.size (by decide) rfl) ad l.length c (byt l) rfl (by rw [byt_len, Nat.mul_one]) (fun j u hj => (World.grownBy_alloc _ _ none).cell (byt_cells hown j u hj) (by simp)) (byt_one l) (by unfold maxLen; omega) (by omega) (Nat.le_trans hg.size (by simp)) ?_; intro v' w1 hown' hgrow _)
          have e : 1 + l.length = (UInt8.ofNat (48 + r % 10) :: l).length := by simp; omega
          rw [e] at hown'
          obtain ⟨g, cap, rfl, _, _⟩ := hown'.form (by simp)
          have hgw := gb_own (hg.trans (World.grownBy_alloc _ _ _)) (World.ownsRow_lit (base := w.heap.size) (e := 5) (size := 1) wr #[_] 1 hg.size (by decide) rfl) (Nat.le_refl _) hgrow
          have HO := Lib.hid hown'
          have HG := Lib.hid hgw
          clear hown hown' hgrow hgw e hg
          go_wp2_with fail
          go_roundw
          case rel => exact ⟨r / 10, UInt8.ofNat (48 + r % 10) :: l, ⟨g, 0, none⟩, cap, rfl, congrArg (Value.int .i64) HQ.out.symm, HN.out, HL.out, hr10, byt_as HO.out (by have := HM.out; simp; omega), HG.out⟩
          case measure => simp; omega
        · go_wp2_with (at_builtin; refine wpList_append_own _ rfl _ _ 22 rfl w.heap.size 5 i0 (.int .u8 0) 1 1 Tryd.underlying22 hi0 hz0 hz1 hz2 rfl (by decide) _ _ _ rfl (World.ownsRow_lit wr #[_] 1 hg.size (by decide) rfl) ad l.length c (byt l) rfl (by rw [byt_len, Nat.mul_one]) (fun j u hj => (World.grownBy_alloc _ _ none).cell (byt_cells hown j u hj) (by simp)) (byt_one l) (by unfold maxLen; omega) (by omega) (Nat.le_trans hg.size (by simp)) ?_; intro v' w1 hown' hgrow _)
          have e : 1 + l.length = (UInt8.ofNat (48 + r % 10) :: l).length := by simp; omega
          rw [e] at hown'
          obtain ⟨g, cap, rfl, _, _⟩ := hown'.form (by simp)
          have hgw := gb_own (hg.trans (World.grownBy_alloc _ _ _)) (World.ownsRow_lit (base := w.heap.size) (e := 5) (size := 1) wr #[_] 1 hg.size (by decide) rfl) (Nat.le_refl _) hgrow
          have HO := Lib.hid hown'
          have HG := Lib.hid hgw
          clear hown hown' hgrow hgw e hg
          go_wp2_with fail
          go_roundw
          case rel => exact ⟨r / 10, UInt8.ofNat (48 + r % 10) :: l, ⟨g, 0, none⟩, cap, rfl, congrArg (Value.int .i64) HQ.out.symm, HN.out, HL.out, hr10, byt_as HO.out (by have := HM.out; simp; omega), HG.out⟩
          case measure => simp; omega
      · by_cases hneg : d < 0
        · go_wp2_with (at_builtin; refine wpList_append_own _ rfl _ _ 22 rfl w.heap.size 5 i0 (.int .u8 0) 1 1 Tryd.underlying22 hi0 hz0 hz1 hz2 rfl (by decide) _ _ _ rfl (World.ownsRow_lit wr #[_] 1 hg.size (by decide) rfl) ad l.length c (byt l) rfl (by rw [byt_len, Nat.mul_one]) (fun j u hj => (World.grownBy_alloc _ _ none).cell (byt_cells hown j u hj) (by simp)) (byt_one l) (by unfold maxLen; omega) (by omega) (Nat.le_trans hg.size (by simp)) ?_; intro v' w1 hown' hgrow _)
          have e : 1 + l.length = (UInt8.ofNat (48 + r % 10) :: l).length := by simp; omega
          rw [e] at hown'
          obtain ⟨g, cap, rfl, _, _⟩ := hown'.form (by simp)
          have hgw := gb_own (hg.trans (World.grownBy_alloc _ _ _)) (World.ownsRow_lit (base := w.heap.size) (e := 5) (size := 1) wr #[_] 1 hg.size (by decide) rfl) (Nat.le_refl _) hgrow
          have HO := Lib.hid hown'
          have HG := Lib.hid hgw
          clear hown hown' hgrow hgw e hg
          go_wp2_with fail
          go_roundw
          case rel => exact ⟨r / 10, UInt8.ofNat (48 + r % 10) :: l, ⟨g, 0, none⟩, cap, rfl, congrArg (Value.int .i64) HQ.out.symm, HN.out, HL.out, hr10, byt_as HO.out (by have := HM.out; simp; omega), HG.out⟩
          case measure => simp; omega
        · go_wp2_with (at_builtin; refine wpList_append_own _ rfl _ _ 22 rfl w.heap.size 5 i0 (.int .u8 0) 1 1 Tryd.underlying22 hi0 hz0 hz1 hz2 rfl (by decide) _ _ _ rfl (World.ownsRow_lit wr #[_] 1 hg.size (by decide) rfl) ad l.length c (byt l) rfl (by rw [byt_len, Nat.mul_one]) (fun j u hj => (World.grownBy_alloc _ _ none).cell (byt_cells hown j u hj) (by simp)) (byt_one l) (by unfold maxLen; omega) (by omega) (Nat.le_trans hg.size (by simp)) ?_; intro v' w1 hown' hgrow _)
          have e : 1 + l.length = (UInt8.ofNat (48 + r % 10) :: l).length := by simp; omega
          rw [e] at hown'
          obtain ⟨g, cap, rfl, _, _⟩ := hown'.form (by simp)
          have hgw := gb_own (hg.trans (World.grownBy_alloc _ _ _)) (World.ownsRow_lit (base := w.heap.size) (e := 5) (size := 1) wr #[_] 1 hg.size (by decide) rfl) (Nat.le_refl _) hgrow
          have HO := Lib.hid hown'
          have HG := Lib.hid hgw
          clear hown hown' hgrow hgw e hg
          go_wp2_with fail
          go_roundw
          case rel => exact ⟨r / 10, UInt8.ofNat (48 + r % 10) :: l, ⟨g, 0, none⟩, cap, rfl, congrArg (Value.int .i64) HQ.out.symm, HN.out, HL.out, hr10, byt_as HO.out (by have := HM.out; simp; omega), HG.out⟩
          case measure => simp; omega
    · have hl : l ≠ [] := fun e => hgo (.inl e)
      have hr : r = 0 := by
        rcases Nat.eq_zero_or_pos r with h | h
        · exact h
        · exact absurd (.inr (by omega)) hgo
      subst hr
      have hdone := hinv.done hl
      have hz : sgR n 0 = 0 := (sgR_zero n 0).2 rfl
      have hc1 : ((l.length : Int) == 0) = false := by simp [hl]
      have hl20 := hlen.1
      rw [hz]
      have HD := Lib.hid hdone
      clear hdone hinv hlen hz hgo hl
      by_cases hn : n < 0
      · go_wp2_with (at_builtin; refine wpList_append_own _ rfl _ _ 22 rfl w.heap.size 5 i0 (.int .u8 0) 1 1 Tryd.underlying22 hi0 hz0 hz1 hz2 rfl (by decide) _ _ _ rfl (World.ownsRow_lit wr #[_] 1 hg.size (by decide) rfl) ad l.length c (byt l) rfl (by rw [byt_len, Nat.mul_one]) (fun j u hj => (World.grownBy_alloc _ _ none).cell (byt_cells hown j u hj) (by simp)) (byt_one l) (by unfold maxLen; omega) (by omega) (Nat.le_trans hg.size (by simp)) ?_; intro v' w1 hown' hgrow _)
        have e : 1 + l.length = (45 :: l).length := by simp; omega
        have hgw := gb_own (hg.trans (World.grownBy_alloc _ _ _)) (World.ownsRow_lit (base := w.heap.size) (e := 5) (size := 1) wr #[_] 1 hg.size (by decide) rfl) (Nat.le_refl _) hgrow
        rw [e] at hown'
        have hown2 : w1.ownsRow w.heap.size 5 1 v' (45 :: l).length (byt (45 :: l)) := hown'
        have hfin : Lib.itoa n = 45 :: l := by unfold Lib.itoa; rw [if_pos hn, HD.out]
        have hne : 0 < (45 :: l).length := by simp
        generalize (45 :: l) = l2 at hown2 hfin hne
        clear hown' e
        obtain ⟨g, cap, rfl, _, _⟩ := hown2.form hne
        have hcv := run_convert_bytes_back (P := Tryd.prog) w1 22 9 5 ⟨g, 0, none⟩ cap l2 Tryd.underlying22 Tryd.underlying5 Tryd.underlying9 (fun j hj => byt_cells hown2 j _ (byt_get _ j hj))
        have HG := Lib.hid hgw
        have HF := Lib.hid hfin
        clear hown hown2 hgrow hgw hg hfin hne
        rw [hcv]
        go_simp
        go_wp2_with fail
        go_ret
        exact ⟨by rw [HF.out]; rfl, HG.out⟩
      · have hcv := run_convert_bytes_back (P := Tryd.prog) wr 22 9 5 ad c l Tryd.underlying22 Tryd.underlying5 Tryd.underlying9 (fun j hj => byt_cells hown j _ (byt_get _ j hj))
        go_wp2_with fail
        go_ret
        exact ⟨by unfold Lib.itoa; rw [if_neg (by omega), show n.toNat = n.natAbs from by omega, HD.out]; rfl, hg⟩

end Go.Proofs.YthlfclnfkgiddaaDoor.dec
