/- The greatest lobes of a small cut, by the program. -/
import Derived.Test.YtkjmlpdbnnmlhabRows
import Derived.Test.YtkjmlpdbnnmlhabSlc
import Derived.Test.YtkjmlpdbnnmlhabSmall
import Derived.Test.YtkjmlpdbnnmlhabListI
import Derived.Test.YtkjmlpdbnnmlhabR8
import Derived.Test.YtkjmlpdbnnmlhabFloatAll
import Derived.Test.YtkjmlpdbnnmlhabFWalk
import Derived.Test.YtkjmlpdbnnmlhabCut
import Derived.Test.YtkjmlpdbnnmlhabListF
import Derived.Test.YtkjmlpdbnnmlhabPeak
import Derived.Test.YtkjmlpdbnnmlhabRuns
import Derived.Test.YtkjmlpdbnnmlhabMarkF
import Derived.Test.YtkjmlpdbnnmlhabRuns2
import Derived.Test.YtkjmlpdbnnmlhabLobesI
import Derived.Test.YtkjmlpdbnnmlhabCutDraw
import Derived.Test.YtkjmlpdbnnmlhabCutNum
import Derived.Test.YtkjmlpdbnnmlhabSortI
import Derived.Test.YtkjmlpdbnnmlhabStrong
import Derived.WalkKit
import Derived.ProofKit
import Derived.OpenShut
import Derived.ShutString
import Derived.ChangeOld
import Derived.Below
import Derived.Lib.Hide
import Derived.BigQuiet
import Derived.Deep.QuietTactic
import Derived.WalkLawsBesides
import Derived.Outline
import Derived.Deep.LoopGhost
import Derived.RangeFuncBox
namespace Go.Proofs.Ytkjmlpdbnnmlhab.strongL
open Go.ChangeShapes Go.WideShapes Go.ChangeAt Go.RowKit
open Go.ChangeMaps (open_string shut_string)
set_option linter.unusedVariables false
open Go Ieee Go.RowKit
open Go.Proofs.Ytkjmlpdbnnmlhab.slc Go.Proofs.Ytkjmlpdbnnmlhab.small Go.Proofs.Ytkjmlpdbnnmlhab.listI Go.Proofs.Ytkjmlpdbnnmlhab.floats Go.Proofs.Ytkjmlpdbnnmlhab.fWalk Go.Proofs.Ytkjmlpdbnnmlhab.cut Go.Proofs.Ytkjmlpdbnnmlhab.listF Go.Proofs.Ytkjmlpdbnnmlhab.runs Go.Proofs.Ytkjmlpdbnnmlhab.markF Go.Proofs.Ytkjmlpdbnnmlhab.lobesI Go.Proofs.Ytkjmlpdbnnmlhab.cutDraw Go.Proofs.Ytkjmlpdbnnmlhab.cutNum Go.Proofs.Ytkjmlpdbnnmlhab.sortI Go.Proofs.Ytkjmlpdbnnmlhab.strong

def cvi (x y : Nat) : Int := if x < y then -1 else if y < x then 1 else 0
theorem cvi_neg (x y : Nat) : cvi x y < 0 ↔ x < y := by
  unfold cvi
  split
  · omega
  · split <;> omega
theorem nan_f (a : Nat) (h : a < 8) (w : World) : Calls Try.prog 235 #[.float .f32 (fw a)] w fun e w' => e = .returned (.bool false) ∧ w = w' := by
  have ho : (FloatKind.f32.format.order (fw a) (fw a) != some .eq) = false := by
    rw [fw_ord h h, show compare a a = .eq from Nat.compare_eq_eq.2 rfl]
    rfl
  go_enter Try.func235, Try.ntmps235
  go_wp2
  go_ret
  exact ⟨by simp, rfl⟩
theorem compare_c (a b : Nat) (ha : a < 8) (hb : b < 8) (w : World) : Calls Try.prog 148 #[.float .f32 (fw a), .float .f32 (fw b)] w fun e w' => e = .returned (.int .i64 (cvi a b)) ∧ w = w' := by
  have H1 := Lib.hid (nan_f a ha)
  have H2 := Lib.hid (nan_f b hb)
  have ho := fw_ord ha hb
  have HC := Lib.hid (show (cvi a b = -1 ∧ compare a b = .lt) ∨ (cvi a b = 0 ∧ compare a b = .eq) ∨ (cvi a b = 1 ∧ compare a b = .gt) by
    unfold cvi
    rcases Nat.lt_trichotomy a b with h | h | h
    · exact .inl ⟨by rw [if_pos h], Nat.compare_eq_lt.2 h⟩
    · exact .inr (.inl ⟨by rw [if_neg (by omega), if_neg (by omega)], Nat.compare_eq_eq.2 h⟩)
    · exact .inr (.inr ⟨by rw [if_neg (by omega), if_pos h], Nat.compare_eq_gt.2 h⟩))
  generalize cvi a b = v at *
  generalize compare a b = o at *
  go_enter Try.func148, Try.ntmps148
  go_wp2_with fail
  refine (H1.out _).mono ?_
  rintro e w' ⟨rfl, rfl⟩
  go_wp2_with fail
  refine (H2.out _).mono ?_
  rintro e w' ⟨rfl, rfl⟩
  rcases HC.out with ⟨rfl, rfl⟩ | ⟨rfl, rfl⟩ | ⟨rfl, rfl⟩
  · have q : (FloatKind.f32.format.order (fw a) (fw b) == some .lt) = true := by rw [ho]; rfl
    go_wp2_with fail
    go_ret
    exact ⟨rfl, rfl⟩
  · have q : (FloatKind.f32.format.order (fw a) (fw b) == some .lt) = false := by rw [ho]; rfl
    have q2 : (FloatKind.f32.format.order (fw a) (fw b) == some .gt) = false := by rw [ho]; rfl
    go_wp2_with fail
    go_ret
    exact ⟨rfl, rfl⟩
  · have q : (FloatKind.f32.format.order (fw a) (fw b) == some .lt) = false := by rw [ho]; rfl
    have q2 : (FloatKind.f32.format.order (fw a) (fw b) == some .gt) = true := by rw [ho]; rfl
    go_wp2_with fail
    go_ret
    exact ⟨rfl, rfl⟩
theorem clo_c (vs : List Nat) (ad : Addr) (c bx a b : Nat) (w : World) (h8 : ∀ x ∈ vs, x < 8) (h12 : vs.length ≤ 12) (ha : a < vs.length) (hb : b < vs.length) (hbx : w.cell? ⟨bx, 0, none⟩ = some (.slice (some ad) vs.length c))
    (hca : w.cell? (ad.add a) = some (.float .f32 (fw (vs.getD a 0)))) (hcb : w.cell? (ad.add b) = some (.float .f32 (fw (vs.getD b 0)))) :
    Calls Try.prog 147 #[.int .i64 (a : Int), .int .i64 (b : Int), .pointer (some ⟨bx, 0, none⟩)] w fun e w' => e = .returned (.int .i64 (cvi (vs.getD b 0) (vs.getD a 0))) ∧ ∃ m, w' = w.drewN m := by
  have HC := Lib.hid (fun w => compare_c (vs.getD b 0) (vs.getD a 0) (get_lt h8 b) (get_lt h8 a) w)
  have a0 : (0 : Int) ≤ (a : Int) := by omega
  have b0 : (0 : Int) ≤ (b : Int) := by omega
  have a1 : (a : Int) < (vs.length : Int) := by omega
  have b1 : (b : Int) < (vs.length : Int) := by omega
  generalize cvi (vs.getD b 0) (vs.getD a 0) = v at *
  generalize fw (vs.getD a 0) = x at *
  generalize fw (vs.getD b 0) = y at *
  go_enter Try.func147, Try.ntmps147
  go_wp2_with fail
  go_quiet (first | (go_at_call 148; refine Calls.quiet_of_same ((HC.out _).mono (fun e w' h => ⟨h.1, h.2.symm⟩))))
  go_wp2_with fail
  go_ret
  exact ⟨rfl, _, rfl⟩
/-- More numbers come first. -/
def gtv (vs : List Nat) (a b : Int) : Prop := vs.getD b.toNat 0 < vs.getD a.toNat 0
theorem gtv_tr (vs : List Nat) (a b c : Int) (h1 : ¬ gtv vs b a) (h2 : ¬ gtv vs c b) : ¬ gtv vs c a := by unfold gtv at *; omega
theorem gtv_as (vs : List Nat) (a b : Int) (h : gtv vs a b) : ¬ gtv vs b a := by unfold gtv at *; omega
theorem rd_cell {w : World} {B n : Nat} {ad : Addr} {x : Nat → Nat} (h : Rd w B (some ad) n (fl x)) {j : Nat} (hj : j < n) : w.cell? (ad.add j) = some (.float .f32 (x j)) := by
  obtain ⟨ad', e, _, h'⟩ := h.at_ hj
  injection e with e; subst e; exact h'
set_option maxHeartbeats 4000000 in
set_option maxRecDepth 100000 in
theorem strong_c (vs : List Nat) (ad : Addr) (c B m q k : Nat) (ls : List Int) (w : World) (h8 : ∀ x ∈ vs, x < 8) (h1 : 1 ≤ vs.length) (h12 : vs.length ≤ 12) (hm : m ≤ 4) (hr : Rd w B (some ad) vs.length (fl (kx vs))) (hB : B ≤ w.heap.size)
    (hls : runs true (kx vs) vs.length vs.length 0 = ls) (hq : ls.length = q + 1) (hk : min m (q + 1) = k) (hin : ∀ a ∈ ls, 0 ≤ a ∧ a < vs.length) :
    Calls Try.prog 36 #[.slice (some ad) vs.length c, .int .i64 (m : Int)] w fun e w' => ∃ (s t : List Int) (g cf : Nat), s.Perm ls ∧ s.Pairwise (fun x y => ¬ gtv vs y x) ∧ t.Perm (s.take k) ∧ e = .returned (.tuple #[.slice (some ⟨g, 0, none⟩) k cf, .bool true]) ∧
      (∀ j, j < k → w'.cell? ⟨g, j, none⟩ = some (.int .i64 (t.getD j 0))) ∧ w.heap.size ≤ g ∧ g < w'.heap.size ∧ w.grownBy w' none := by
  have hql : q + 1 ≤ 12 := by
    have := runs_len true (kx vs) vs.length vs.length 0
    rw [hls, hq] at this
    omega
  have HLB := Lib.hid (fun (w1 : World) (g : w.grownBy w1 none) => lobes_c (kx vs) vs.length (some ad) c w1.heap.size w1 (by omega) ((hr.kept0 g hB).mono (Nat.le_trans hB g.size)) (Nat.le_refl _))
  rw [show runsT true (kx vs) vs.length = (ls, true) by unfold runsT; rw [if_pos ⟨h1, by omega⟩, hls]] at HLB
  have gb := World.grownBy_alloc w (.cells #[.slice (some ad) vs.length c] 58) none
  have bx : (w.alloc (.cells #[.slice (some ad) vs.length c] 58)).cell? ⟨w.heap.size, 0, none⟩ = some (.slice (some ad) vs.length c) := cell_of_row _ _ 0 _ _ _ (heap_alloc_new w _)
  have HRC := Lib.hid (fun (w1 : World) (g : w.grownBy w1 none) (j : Nat) (hj : j < vs.length) => rd_cell (hr.kept0 g hB) hj)
  have HIN := Lib.hid hin
  have hm0 : (0 : Int) ≤ (m : Int) := by omega
  have hm1 : (m : Int) ≤ 129 := by omega
  go_enter Try.func36, Try.ntmps36
  go_wp2_with fail
  generalize hw0 : w.alloc (.cells #[.slice (some ad) vs.length c] 58) = w0 at *
  have hsz : w.heap.size + 1 = w0.heap.size := by rw [← hw0]; simp
  refine (HLB.out _ gb).mono ?_
  rintro e w1 ⟨A1, c1, rfl, ho1, g1⟩
  rw [markF.cls_lst] at ho1
  rw [hq] at ho1
  obtain ⟨g, cf, hA⟩ := ownsRow_succ ho1
  injection hA with hA _ hcf
  subst hA hcf
  have hgb := own_base ho1 g rfl
  have hadb : ad.block < w.heap.size := by
    obtain ⟨ad', e, hb, _⟩ := hr.at_ (show 0 < vs.length by omega)
    injection e with e; subst e; omega
  have hcap := own_le ho1
  have HST := Lib.hid (stable_c (gtv vs) (fun a => 0 ≤ a ∧ a < (vs.length : Int)) (.pointer (some ⟨w.heap.size, 0, none⟩)) (gtv_tr vs) (gtv_as vs) g (q + 1) c1 w0.heap.size ls w1 hq (by omega) hgb.1 ho1 hin (fun a b ha hb => by
    obtain ⟨a', rfl⟩ : ∃ a' : Nat, a = (a' : Int) := ⟨a.toNat, by omega⟩
    obtain ⟨b', rfl⟩ : ∃ b' : Nat, b = (b' : Int) := ⟨b.toNat, by omega⟩
    refine ⟨cvi (vs.getD b' 0) (vs.getD a' 0), by rw [cvi_neg]; exact Iff.rfl, fun wx gx => ?_⟩
    have gw := gb.trans g1
    exact clo_c vs ad c w.heap.size a' b' wx h8 h12 (by omega) (by omega) (gx.cell (g1.cell bx (by simp)) (by simp; omega)) (gx.cell (HRC.out w1 gw a' (by omega)) (by simp [add_block]; omega)) (gx.cell (HRC.out w1 gw b' (by omega)) (by simp [add_block]; omega))))
  have HSRT := Lib.hid (fun (k : Nat) (s : List Int) (w2 : World) (hs : s.length = q + 1) (hk4 : k ≤ 4) (hkq : k ≤ q + 1) ho => sort_c g (q + 1) k c1 c1 w0.heap.size s w2 hs hk4 hkq (by omega) hgb.1 ho)
  have HLL := Lib.hid hq
  rw [hq]
  have hk4 : k ≤ 4 := by omega
  have hkq : k ≤ q + 1 := by omega
  have hkc : (k : Int) ≤ (c1 : Int) := by omega
  have hk0 : (0 : Int) ≤ (k : Int) := by omega
  have hmin : (if (q : Int) + 1 < (m : Int) then (q : Int) + 1 else (m : Int)) = (k : Int) := by split <;> omega
  have HK := Lib.hid hk
  have G01 := Lib.hid (gb.trans g1)
  have hgl := hgb.1
  have hgu := hgb.2
  clear hr hB hls hin HLB HRC bx gb g1 ho1 HIN hgb hk hq
  go_wp2_with fail
  refine (within_yes _ _ _ _ hm0 hm1).mono ?_
  rintro e w' ⟨rfl, rfl⟩
  go_wp2_with fail
  refine HST.out.mono ?_
  rintro e w2 ⟨rfl, s, hp, hs, ho2, g2⟩
  have hsl : s.length = q + 1 := hp.length_eq.trans HLL.out
  have HS2 := Lib.hid (HSRT.out k s w2 hsl hk4 hkq ho2)
  have HF := Lib.hid (And.intro hp (And.intro hs g2))
  clear hp hs ho2 g2 HST HSRT
  go_wp2_with fail
  refine HS2.out.mono ?_
  rintro e w3 ⟨rfl, t, htp, ho3, g3⟩
  have HG3 := Lib.hid (And.intro htp (And.intro ho3 g3))
  clear htp ho3 g3 HS2
  go_wp2_with fail
  go_ret2
  obtain ⟨hp, hs, g2⟩ := HF.out
  obtain ⟨htp, ho3, g3⟩ := HG3.out
  have htl : t.length = k := by rw [htp.length_eq, List.length_take]; omega
  refine ⟨s, t, g, c1, hp, hs, htp, rfl, fun j hj => ?_, by omega, by have := g2.size; have := g3.size; omega, gb_new G01.out (g2.trans g3) (by intro z e; injection e with e; omega)⟩
  rw [ho3.cellAt j (by omega)]
  simp [ints, List.getD, htl, hj, List.getElem?_append_left]

end Go.Proofs.Ytkjmlpdbnnmlhab.strongL
