/- Slots by the program: their ends, turns and due ticks. -/
/- Plans by the program. -/
/- Plans by the model. -/
/- IsPlan by the model; lists of integers as cells. -/
import Derived.Test.YtbefoiikbbjjfaaRows
import Derived.Test.YtbefoiikbbjjfaaSlc
import Derived.Test.YtbefoiikbbjjfaaSmall
import Derived.Test.YtbefoiikbbjjfaaOpens
import Derived.Test.YtbefoiikbbjjfaaBeams
import Derived.Test.YtbefoiikbbjjfaaListBeam
import Derived.Test.YtbefoiikbbjjfaaListSlot
import Derived.Test.YtbefoiikbbjjfaaPlanNum
import Derived.Test.YtbefoiikbbjjfaaSwT
import Derived.Test.YtbefoiikbbjjfaaBeamsOk
import Derived.WalkKit
import Derived.ProofKit
import Derived.OpenShut
import Derived.ShutString
import Derived.ChangeOld
import Derived.Below
import Derived.Lib.Hide
import Derived.BigQuiet
import Derived.Deep.QuietTactic
import Derived.WalkLawsBesides
import Derived.Outline
import Derived.Deep.LoopGhost
import Derived.Deep.RegionWith
import Derived.Deep.RegionHeld3
import Derived.Deep.OwnRows
import Derived.Deep.CutRange
import Derived.Deep.CutBlock
import Derived.Deep.DeepCutAuto
namespace Go.Proofs.Ytbefoiikbbjjfaa.planDue
open Go.ChangeShapes Go.WideShapes Go.ChangeAt Go.RowKit
open Go.ChangeMaps (open_string shut_string)
set_option linter.unusedVariables false
open Go Go.RowKit
open Go.Proofs.Ytbefoiikbbjjfaa.slc Go.Proofs.Ytbefoiikbbjjfaa.small Go.Proofs.Ytbefoiikbbjjfaa.opens Go.Proofs.Ytbefoiikbbjjfaa.beams Go.Proofs.Ytbefoiikbbjjfaa.listBeam Go.Proofs.Ytbefoiikbbjjfaa.planNum Go.Proofs.Ytbefoiikbbjjfaa.swT

theorem info64 : (Try.prog.info? 2).map (fun i => (i.zero, i.size, i.bytes)) = some (some (.int .i64 0), 1, 8) := by kernel_rfl

/-- What is asked of beams. -/
structure BsOk (bs : List Bm) : Prop where
  len : bs.length ≤ 7
  pos : 1 ≤ bs.length
  bd : ∀ k, k < bs.length → Bd (bg bs k).1 (bg bs k).2.1
  num : ∀ k, k < bs.length → 1 ≤ (bg bs k).2.2.1 ∧ (bg bs k).2.2.1 ≤ 10000 ∧ (bg bs k).2.2.1 ≤ (bg bs k).2.2.2 ∧ (bg bs k).2.2.2 ≤ 10000
theorem BsOk.of {bs : List Bm} (h : ab bs = true) : BsOk bs := ⟨(ab_len h).2, (ab_len h).1, fun k hk => ab_bd h hk, fun k hk => ab_num h hk⟩

set_option maxHeartbeats 800000 in
set_option maxRecDepth 100000 in
theorem end_c (A : Option Addr) (c B : Nat) (bs : List Bm) (j : Nat) (t : Int) (w : World) (hk : BsOk bs) (hj : j < bs.length) (h0 : 0 ≤ t) (h1 : t ≤ 100000) (hr : Rd w B A (bs.length * 4) (bcell bs)) (hB : B ≤ w.heap.size) :
    Calls Try.prog 106 #[.slice A bs.length c, .agg #[.int .i64 j, .int .i64 t]] w fun e w' => e = .returned (.int .i64 (t + dw bs j)) ∧ w.grownBy w' none := by
  obtain ⟨ad, u, v, d, s, rfl, _, hx, hc0, hc1, hc2, hc3⟩ := Rd.four hr hj
  have hn := hk.num j hj
  have hl := hk.len
  have hd : dw bs j = d := by unfold dw; rw [show bg bs j = _ from hx]
  rw [show bg bs j = _ from hx] at hn
  replace hn : 1 ≤ d ∧ d ≤ 10000 ∧ d ≤ s ∧ s ≤ 10000 := hn
  obtain ⟨n1, n2, n3, n4⟩ := hn
  rw [hd]
  clear hk hx hd hr
  have j0 : (0 : Int) ≤ (j : Int) := by omega
  have j1 : (j : Int) < (bs.length : Int) := by omega
  have w1 : IntKind.i64.wrap (t + d) = t + d := by rw [IntKind.wrap_i64]; omega
  obtain ⟨p1, p2⟩ := boxed2 (World.grownBy.refl (w.alloc (.cells #[.int .i64 j, .int .i64 t] 69)) none)
  have hga : w.grownBy (w.alloc (.cells #[.int .i64 j, .int .i64 t] 69)) none := World.grownBy_alloc _ _ _
  have q2 := hga.cell hc2 (by simp)
  go_enter Try.func106, Try.ntmps106
  go_wp2_with fail
  go_quiet (fail)
  go_wp2_with fail
  go_ret
  exact ⟨rfl, hga.trans (gb_drewN _ _ _)⟩

set_option maxHeartbeats 800000 in
set_option maxRecDepth 100000 in
theorem turn_c (A : Option Addr) (c B : Nat) (bs : List Bm) (j i : Nat) (t : Int) (w : World) (hk : BsOk bs) (hj : j < bs.length) (hi : i < bs.length) (hr : Rd w B A (bs.length * 4) (bcell bs)) (hB : B ≤ w.heap.size) :
    Calls Try.prog 105 #[.slice A bs.length c, .agg #[.int .i64 j, .int .i64 t], .int .i64 i] w fun e w' => e = .returned (.int .i64 (tu bs j i)) ∧ w.grownBy w' none := by
  obtain ⟨ad, u, v, d, s, rfl, _, hx, hc0, hc1, _, _⟩ := Rd.four hr hj
  obtain ⟨ad', u', v', d', s', e', _, hx', hd0, hd1, _, _⟩ := Rd.four hr hi
  obtain rfl : ad = ad' := by injection e'
  have hl := hk.len
  have hb1 := hk.bd j hj
  have hb2 := hk.bd i hi
  rw [show bg bs j = _ from hx] at hb1
  rw [show bg bs i = _ from hx'] at hb2
  replace hb1 : Bd u v := hb1
  replace hb2 : Bd u' v' := hb2
  have ht : tu bs j i = sw u v u' v' := by unfold tu; rw [show bg bs j = _ from hx, show bg bs i = _ from hx']
  rw [ht]
  have HS := Lib.hid (fun w => sw_impl u v u' v' w hb1 hb2)
  clear hk hx hx' e' hr hb1 hb2 ht
  have j0 : (0 : Int) ≤ (j : Int) := by omega
  have j1 : (j : Int) < (bs.length : Int) := by omega
  have i0 : (0 : Int) ≤ (i : Int) := by omega
  have i1 : (i : Int) < (bs.length : Int) := by omega
  obtain ⟨p1, p2⟩ := boxed2 (World.grownBy.refl (w.alloc (.cells #[.int .i64 j, .int .i64 t] 69)) none)
  have hga : w.grownBy (w.alloc (.cells #[.int .i64 j, .int .i64 t] 69)) none := World.grownBy_alloc _ _ _
  have q0 := hga.cell hc0 (by simp)
  have q1 := hga.cell hc1 (by simp)
  have q2 := hga.cell hd0 (by simp)
  have q3 := hga.cell hd1 (by simp)
  go_enter Try.func105, Try.ntmps105
  go_wp2_with fail
  go_region_with ((go_at_call 113; refine (HS.out _).mono ?_; rintro e w1 ⟨rfl, g1⟩))
  all_goals
    go_wp2_with fail
    go_ret
    exact ⟨rfl, hga.trans (World.grownBy.trans (gb_drewN _ 1 none) g1)⟩

set_option maxHeartbeats 800000 in
set_option maxRecDepth 100000 in
theorem slot_c (A : Option Addr) (c : Nat) (bs : List Bm) (b t : Int) (w : World) (hk : BsOk bs) :
    Calls Try.prog 111 #[.slice A bs.length c, .agg #[.int .i64 b, .int .i64 t]] w fun e w' => e = .returned (.bool (one bs (b, t))) ∧ w.grownBy w' none := by
  have hl := hk.len
  have hp := hk.pos
  clear hk
  by_cases h1 : 0 ≤ b ∧ b ≤ (bs.length : Int) - 1
  · by_cases h2 : 0 ≤ t ∧ t ≤ 100000
    · have HV := Lib.hid (show one bs (b, t) = true from decide_eq_true ⟨h1.1, h1.2, h2.1, h2.2⟩)
      obtain ⟨a1, a2⟩ := h1
      obtain ⟨a3, a4⟩ := h2
      go_enter Try.func111, Try.ntmps111
      go_wp2_with fail
      refine (within_yes _ _ _ _ a1 a2).mono ?_
      rintro e w' ⟨rfl, rfl⟩
      go_wp2_with fail
      refine (within_yes _ _ _ _ a3 a4).mono ?_
      rintro e w' ⟨rfl, rfl⟩
      go_wp2_with fail
      go_ret
      exact ⟨ret_bool HV.out.symm, World.grownBy_alloc _ _ _⟩
    · have HV := Lib.hid (show one bs (b, t) = false from decide_eq_false fun h => h2 ⟨h.2.2.1, h.2.2.2⟩)
      have HN := Lib.hid (show t < 0 ∨ 100000 < t by omega)
      obtain ⟨a1, a2⟩ := h1
      clear h2
      go_enter Try.func111, Try.ntmps111
      go_wp2_with fail
      refine (within_yes _ _ _ _ a1 a2).mono ?_
      rintro e w' ⟨rfl, rfl⟩
      go_wp2_with fail
      refine (within_no _ _ _ _ HN.out).mono ?_
      rintro e w' ⟨rfl, rfl⟩
      go_wp2_with fail
      go_ret
      exact ⟨ret_bool HV.out.symm, World.grownBy_alloc _ _ _⟩
  · have HV := Lib.hid (show one bs (b, t) = false from decide_eq_false fun h => h1 ⟨h.1, h.2.1⟩)
    have HN := Lib.hid (show b < 0 ∨ (bs.length : Int) - 1 < b by omega)
    clear h1
    go_enter Try.func111, Try.ntmps111
    go_wp2_with fail
    refine (within_no _ _ _ _ HN.out).mono ?_
    rintro e w' ⟨rfl, rfl⟩
    go_wp2_with fail
    go_ret
    exact ⟨ret_bool HV.out.symm, World.grownBy_alloc _ _ _⟩

/-- The due tick of the slot k. -/
def du (bs : List Bm) (ss : List Sl) (k : Nat) : Int := (cnt ss (sg ss k).1.toNat k + 1) * ev bs (sg ss k).1.toNat
def cv (bs : List Bm) (ss : List Sl) (k : Nat) (j : Nat) : Value := .int .i64 (cnt ss j k * ev bs j)
theorem cv_zero (bs : List Bm) (ss : List Sl) (n : Nat) : lst (fun _ => Value.int .i64 0) n = lst (cv bs ss 0) n := lst_congr fun j _ => by unfold cv cnt; simp
theorem cv_set (bs : List Bm) (ss : List Sl) (k j n : Nat) (hj : (sg ss k).1 = (j : Int)) (hn : j < n) : (lst (cv bs ss k) n).set j (.int .i64 (cnt ss j k * ev bs j + ev bs j)) = lst (cv bs ss (k + 1)) n := by
  apply List.ext_getElem?
  intro i
  rw [List.getElem?_set]
  by_cases hi : j = i
  · subst hi
    rw [if_pos rfl, if_pos (by rw [lst_len]; exact hn), lst_get _ _ _ hn]
    unfold cv
    rw [show cnt ss j (k + 1) = cnt ss j k + 1 from by show cnt ss j k + _ = _; rw [if_pos hj]]
    rw [show ((cnt ss j k + 1 : Nat) : Int) * ev bs j = cnt ss j k * ev bs j + ev bs j by rw [Int.natCast_add, Int.add_mul]; simp]
  · rw [if_neg hi]
    by_cases h2 : i < n
    · rw [lst_get _ _ _ h2, lst_get _ _ _ h2]
      unfold cv
      rw [show cnt ss i (k + 1) = cnt ss i k from by show cnt ss i k + _ = _; rw [if_neg (by rw [hj]; omega)]; rfl]
    · rw [List.getElem?_eq_none (by rw [lst_len]; omega), List.getElem?_eq_none (by rw [lst_len]; omega)]
theorem cnt_bd (bs : List Bm) (ss : List Sl) (k j : Nat) (hk : k ≤ 200) (h0 : 0 ≤ ev bs j) (h1 : ev bs j ≤ 10000) : 0 ≤ (cnt ss j k : Int) * ev bs j ∧ (cnt ss j k : Int) * ev bs j ≤ 2000000 := by
  have := cnt_le ss j k
  have h2 : (cnt ss j k : Int) * ev bs j ≤ 200 * 10000 := Int.mul_le_mul (by omega) h1 h0 (by omega)
  exact ⟨Int.mul_nonneg (by omega) h0, by omega⟩

theorem Rd.slot {w : World} {B : Nat} {A : Option Addr} {ss : List Sl} (h : Rd w B A (ss.length * 2) (pcell ss)) {k : Nat} (hk : k < ss.length) :
    ∃ ad x y, A = some ad ∧ ad.block < B ∧ sg ss k = (x, y) ∧ w.cell? (ad.add (k * 2)) = some (.int .i64 x) ∧ w.cell? ⟨(ad.add (k * 2)).block, (ad.add (k * 2)).off + 1, none⟩ = some (.int .i64 y) := by
  obtain ⟨ad, x, y, e, hb, hx, hy, hc, hd⟩ := Go.Proofs.Ytbefoiikbbjjfaa.listSlot.Rd.two h (pcell_ints ss _) hk
  refine ⟨ad, x, y, e, hb, ?_, hc, hd⟩
  unfold pcell at hx hy
  rw [if_pos (by omega)] at hx
  rw [if_neg (by omega)] at hy
  injection hx with _ hx
  injection hy with _ hy
  rw [show k * 2 / 2 = k by omega] at hx
  rw [show (k * 2 + 1) / 2 = k by omega] at hy
  unfold sg
  exact Prod.ext hx hy

theorem make64 (m : Nat) (hm : m ≤ 1000) (w : World) : (Instr.makeSlice 46 (.int .i64 (m : Int)) (.int .i64 (m : Int))).run Try.prog w = .ok (.slice (some ⟨w.heap.size, 0, none⟩) m m) (w.alloc (.cells (madeCells #[.int .i64 0] m) 2)) := by
  obtain ⟨i0, hi0, hz0, hz1, hz2⟩ := info_parts info64
  exact run_make_row 46 2 i0 (.int .i64 0) Try.underlying46 hi0 hz0 hz1 rfl .i64 .i64 m (by rw [hz2]; omega) (by omega) w
theorem own_made (w : World) (base m : Nat) (hb : base ≤ w.heap.size) (hm : m ≤ 1000) : (w.alloc (.cells (madeCells #[.int .i64 0] m) 2)).ownsRow base 2 1 (.slice (some ⟨w.heap.size, 0, none⟩) m m) m (lst (fun _ => .int .i64 0) m) := by
  have h := World.ownsRow_lit (base := base) (e := 2) (size := 1) w (madeCells #[.int .i64 0] m) m hb (by unfold maxLen; omega) (by simp [madeCells])
  rw [toList_madeCells_one, replicate_lst] at h
  exact h

/-- What dueTicks has in memory behind k slots. -/
structure Dl (W wr : World) (bs : List Bm) (ss : List Sl) (g1 g2 k : Nat) : Prop where
  last : wr.ownsRow W.heap.size 2 1 (.slice (some ⟨g1, 0, none⟩) bs.length bs.length) bs.length (lst (cv bs ss k) bs.length)
  due : wr.ownsRow W.heap.size 2 1 (.slice (some ⟨g2, 0, none⟩) ss.length ss.length) ss.length (lst (mix (fun i => .int .i64 (du bs ss i)) (fun _ => .int .i64 0) k) ss.length)
  ne : g1 ≠ g2
  gb : W.grownBy wr none
theorem Dl.start (W : World) (bs : List Bm) (ss : List Sl) (hb : bs.length ≤ 1000) (hs : ss.length ≤ 1000) : Dl W ((W.alloc (.cells (madeCells #[.int .i64 0] bs.length) 2)).alloc (.cells (madeCells #[.int .i64 0] ss.length) 2)) bs ss W.heap.size (W.heap.size + 1) 0 := by
  have h1 := own_made W W.heap.size bs.length (Nat.le_refl _) hb
  have h2 := own_made (W.alloc (.cells (madeCells #[.int .i64 0] bs.length) 2)) W.heap.size ss.length (by simp) hs
  have e : (W.alloc (.cells (madeCells #[.int .i64 0] bs.length) 2)).heap.size = W.heap.size + 1 := by simp
  rw [e] at h2
  refine ⟨?_, ?_, by omega, (World.grownBy_alloc _ _ _).trans (World.grownBy_alloc _ _ _)⟩
  · rw [← cv_zero]
    exact own_kept0 h1 (World.grownBy_alloc _ _ _)
  · rw [mix_zero]
    exact h2
theorem Dl.start2 (W : World) (bs : List Bm) (ss : List Sl) (hb : bs.length ≤ 1000) (hs : ss.length ≤ 1000) : Dl W ((W.alloc (.cells (madeCells #[.int .i64 0] ss.length) 2)).alloc (.cells (madeCells #[.int .i64 0] bs.length) 2)) bs ss (W.heap.size + 1) W.heap.size 0 := by
  have h1 := own_made W W.heap.size ss.length (Nat.le_refl _) hs
  have h2 := own_made (W.alloc (.cells (madeCells #[.int .i64 0] ss.length) 2)) W.heap.size bs.length (by simp) hb
  have e : (W.alloc (.cells (madeCells #[.int .i64 0] ss.length) 2)).heap.size = W.heap.size + 1 := by simp
  rw [e] at h2
  refine ⟨?_, ?_, by omega, (World.grownBy_alloc _ _ _).trans (World.grownBy_alloc _ _ _)⟩
  · rw [← cv_zero]
    exact h2
  · rw [mix_zero]
    exact own_kept0 h1 (World.grownBy_alloc _ _ _)
theorem Dl.kept {W wr w2 : World} {bs : List Bm} {ss : List Sl} {g1 g2 k : Nat} (h : Dl W wr bs ss g1 g2 k) (hg : wr.grownBy w2 none) : Dl W w2 bs ss g1 g2 k :=
  ⟨own_kept0 h.last hg, own_kept0 h.due hg, h.ne, h.gb.trans hg⟩

set_option maxHeartbeats 1600000 in
set_option maxRecDepth 100000 in
theorem due_c (A A' : Option Addr) (c c' B : Nat) (bs : List Bm) (ss : List Sl) (w : World) (hk : BsOk bs) (h1 : ∀ k, k < ss.length → one bs (sg ss k) = true) (hs : ss.length ≤ 200) (hr : Rd w B A (bs.length * 4) (bcell bs)) (hr' : Rd w B A' (ss.length * 2) (pcell ss)) (hB : B ≤ w.heap.size) :
    Calls Try.prog 107 #[.slice A bs.length c, .slice A' ss.length c'] w fun e w' => ∃ A2 c2, e = .returned (.slice A2 ss.length c2) ∧ w'.ownsRow w.heap.size 2 1 (.slice A2 ss.length c2) ss.length (lst (fun k => .int .i64 (du bs ss k)) ss.length) ∧ w.grownBy w' none := by
  have hl := hk.len
  have hmk1 := make64 bs.length (by omega)
  have hmk2 := make64 ss.length (by omega)
  have HS1 := Lib.hid (Dl.start w bs ss (by omega) (by omega))
  have HS2 := Lib.hid (Dl.start2 w bs ss (by omega) (by omega))
  have HR := Lib.hid (fun (w' : World) (hg : w.grownBy w' none) => hr.kept0 hg hB)
  have HR' := Lib.hid (fun (w' : World) (hg : w.grownBy w' none) => hr'.kept0 hg hB)
  have HO := Lib.hid h1
  have HK := Lib.hid hk
  clear hr hr' h1 hk
  go_enter Try.func107, Try.ntmps107
  go_upto_region 1 with fail
  go_cut [5, 6] (fun p q wx => ∃ g1 g2 : Nat, p = .slice (some ⟨g1, 0, none⟩) bs.length bs.length ∧ q = .slice (some ⟨g2, 0, none⟩) ss.length ss.length ∧ Dl w wx bs ss g1 g2 0)
  case first =>
    go_region
    all_goals
      go_wp2_with fail
      go_meet
      first | exact ⟨_, _, rfl, rfl, HS1.out.kept (gb_drewN _ 1 none)⟩ | exact ⟨_, _, rfl, rfl, HS2.out.kept (gb_drewN _ 1 none)⟩ | exact ⟨_, _, rfl, rfl, HS1.out⟩ | exact ⟨_, _, rfl, rfl, HS2.out⟩
  case rest =>
    obtain ⟨g1, g2, rfl, rfl, hD⟩ := hcut
    have HD := Lib.hid hD
    clear hD hmk1 hmk2 HS1 HS2
    go_wp2_with fail
    go_loopw [17] (fun i wr => ∃ k : Nat, k ≤ ss.length ∧ i = .int .i64 k ∧ Dl w wr bs ss g1 g2 k) (fun i _ => ss.length - (intOf i).toNat)
    case atStart => exact ⟨0, Nat.zero_le _, rfl, HD.out⟩
    case round =>
      obtain ⟨k, hkn, rfl, hD⟩ := hrel
      by_cases hlt : k < ss.length
      · obtain ⟨ad', x, y, rfl, _, hxy, hs0, hs1⟩ := Rd.slot (HR'.out wr hD.gb) hlt
        obtain ⟨j, t, e, hj, ht⟩ := one_yes (HO.out k hlt)
        rw [hxy] at e
        obtain ⟨rfl, rfl⟩ : x = (j : Int) ∧ y = (t : Int) := by injection e with a b; exact ⟨a, b⟩
        obtain ⟨ad, u, v, d, s, rfl, _, hx, _, _, _, hc3⟩ := Rd.four (HR.out wr hD.gb) hj
        have hn := HK.out.num j hj
        rw [show bg bs j = _ from hx] at hn
        replace hn : 1 ≤ d ∧ d ≤ 10000 ∧ d ≤ s ∧ s ≤ 10000 := hn
        have hev : ev bs j = s := by unfold ev; rw [show bg bs j = _ from hx]
        obtain ⟨c0, c1⟩ := cnt_bd bs ss k j (by omega) (by omega) (by omega)
        have hga := World.grownBy_alloc wr (.cells #[.int .i64 j, .int .i64 t] 69) none
        obtain ⟨p1, p2⟩ := boxed2 (World.grownBy.refl (wr.alloc (.cells #[.int .i64 j, .int .i64 t] 69)) none)
        have q3 := hga.cell hc3 (by simp)
        have D1 := hD.kept hga
        have l0 := D1.last.cellAt j (by omega)
        rw [lst_get _ _ _ hj] at l0
        have lf := D1.last.frozenAt j
        have b1 := own_base hD.last g1 rfl
        have b2 := own_base hD.due g2 rfl
        obtain ⟨P1, Q1⟩ := D1.last.stored j (.int .i64 (cnt ss j k * ev bs j + ev bs j))
        rw [cv_set bs ss k j bs.length (by rw [hxy]) hj] at P1
        have P2 := World.ownsRow.kept D1.due Q1 (.inr (by simpa [Value.ownBlock] using D1.ne.symm))
        have r1 := Q1.cell p1 (by simp; omega)
        have r2 := P1.cellAt j (by omega)
        rw [lst_get _ _ _ hj] at r2
        have r3 := P2.cellAt k (by omega)
        rw [lst_get _ _ _ hlt] at r3
        have r4 := P2.frozenAt k
        obtain ⟨P3, Q3⟩ := P2.stored k (.int .i64 (du bs ss k))
        rw [mix_set (fun i => .int .i64 (du bs ss i)) _ _ _ hlt] at P3
        have P4 := World.ownsRow.kept P1 Q3 (.inr (by simpa [Value.ownBlock] using D1.ne))
        have hG := gb_new (gb_new D1.gb Q1 (by intro g e; injection e with e; omega)) Q3 (by intro g e; injection e with e; omega)
        have hdu : du bs ss k = cnt ss j k * ev bs j + ev bs j := by
          unfold du
          rw [hxy]
          show ((cnt ss (j : Int).toNat k : Int) + 1) * ev bs (j : Int).toNat = _
          rw [Int.toNat_natCast, Int.add_mul, Int.one_mul]
        have hcv : cv bs ss (k + 1) j = .int .i64 (cnt ss j k * ev bs j + ev bs j) := by
          unfold cv
          rw [show cnt ss j (k + 1) = cnt ss j k + 1 from by show cnt ss j k + _ = _; rw [if_pos (by rw [hxy])]]
          rw [show ((cnt ss j k + 1 : Nat) : Int) * ev bs j = cnt ss j k * ev bs j + ev bs j by rw [Int.natCast_add, Int.add_mul]; simp]
        have HN := Lib.hid (Dl.mk P4 P3 D1.ne hG)
        rw [hdu] at HN
        unfold cv at l0
        rw [hcv] at r2
        clear P1 Q1 P2 P3 Q3 P4 hG hdu hcv D1 hga
        rw [hev] at l0 c0 c1 r1 r2 r3 r4 HN
        have hne := hD.ne
        have j0 : (0 : Int) ≤ (j : Int) := by omega
        have j1 : (j : Int) < (bs.length : Int) := by omega
        have k0 : (0 : Int) ≤ (k : Int) := by omega
        have k1 : (k : Int) < (ss.length : Int) := by omega
        have w1 : IntKind.i64.wrap (cnt ss j k * s + s) = cnt ss j k * s + s := by rw [IntKind.wrap_i64]; omega
        clear hD hx hev hxy e
        generalize (cnt ss j k : Int) * s = N at *
        rw [World.setCell_alloc_past _ _ _ _ b1.2] at r1 r2 r3 r4 HN
        go_wp2_with fail
        go_region
        have R1 : (((wr.setCell ⟨g1, j, none⟩ (.int .i64 (N + s))).alloc (.cells #[.int .i64 j, .int .i64 t] 69)).drew).cell? ⟨wr.heap.size, 0, none⟩ = some (.int .i64 j) := r1
        have R2 : (((wr.setCell ⟨g1, j, none⟩ (.int .i64 (N + s))).alloc (.cells #[.int .i64 j, .int .i64 t] 69)).drew).cell? ⟨g1, j, none⟩ = some (.int .i64 (N + s)) := r2
        have R3 : (((wr.setCell ⟨g1, j, none⟩ (.int .i64 (N + s))).alloc (.cells #[.int .i64 j, .int .i64 t] 69)).drew).cell? ⟨g2, k, none⟩ = _ := r3
        have R4 : (((wr.setCell ⟨g1, j, none⟩ (.int .i64 (N + s))).alloc (.cells #[.int .i64 j, .int .i64 t] 69)).drew).frozen? ⟨g2, k, none⟩ = _ := r4
        clear r1 r2 r3 r4
        have HM := Lib.hid (fun (w' : World) (h : w' = (((wr.setCell ⟨g1, j, none⟩ (.int .i64 (N + s))).alloc (.cells #[.int .i64 j, .int .i64 t] 69)).drew).setCell ⟨g2, k, none⟩ (.int .i64 (N + s))) => show Dl w w' bs ss g1 g2 (k + 1) by subst h; exact HN.out.kept (gb_drewN _ 1 none))
        generalize (((wr.setCell ⟨g1, j, none⟩ (.int .i64 (N + s))).alloc (.cells #[.int .i64 j, .int .i64 t] 69)).drew) = w5 at *
        go_wp2_with fail
        go_roundw
        case rel => exact ⟨k + 1, by omega, by go_num, HM.out _ rfl⟩
        case measure => simp [intOf]; omega
      · obtain rfl : k = ss.length := by omega
        have h2 := hD.due
        rw [mix_full] at h2
        have HH := Lib.hid (And.intro h2 hD.gb)
        clear hD h2
        go_wp2_with fail
        go_ret
        exact ⟨_, _, rfl, HH.out.1, HH.out.2⟩

end Go.Proofs.Ytbefoiikbbjjfaa.planDue

namespace Go.Proofs.Ytbefoiikbbjjfaa.planIs
open Go.ChangeShapes Go.WideShapes Go.ChangeAt Go.RowKit
open Go.ChangeMaps (open_string shut_string)
set_option linter.unusedVariables false
open Go Go.RowKit
open Go.Proofs.Ytbefoiikbbjjfaa.slc Go.Proofs.Ytbefoiikbbjjfaa.small Go.Proofs.Ytbefoiikbbjjfaa.opens Go.Proofs.Ytbefoiikbbjjfaa.beams Go.Proofs.Ytbefoiikbbjjfaa.listBeam Go.Proofs.Ytbefoiikbbjjfaa.planNum Go.Proofs.Ytbefoiikbbjjfaa.swT Go.Proofs.Ytbefoiikbbjjfaa.beamsOk Go.Proofs.Ytbefoiikbbjjfaa.planDue

theorem pl_ab {bs : List Bm} {ss : List Sl} (h : ab bs = false) : pl bs ss = false := by unfold pl; rw [h]; rfl
theorem pl_sp {bs : List Bm} {ss : List Sl} (h : sp bs ss = false) : pl bs ss = false := by unfold pl; rw [h]; simp
theorem pl_mk {bs : List Bm} {ss : List Sl} (h : ab bs = true) (h2 : sp bs ss = true) : pl bs ss = true := by unfold pl; rw [h, h2]; rfl

set_option maxHeartbeats 1600000 in
set_option maxRecDepth 100000 in
theorem is_impl (A : Option Addr) (c : Nat) (A' : Option Addr) (c' B : Nat) (bs : List Bm) (ss : List Sl) (w : World) (hm : bs.length ≤ 9223372036854775807) (hm' : ss.length ≤ 9223372036854775807) (hr : Rd w B A (bs.length * 4) (bcell bs)) (hr' : Rd w B A' (ss.length * 2) (pcell ss)) (hB : B ≤ w.heap.size) :
    Calls Try.prog 33 #[.slice A bs.length c, .slice A' ss.length c'] w fun e w' => e = .returned (.bool (pl bs ss)) ∧ w.grownBy w' none := by
  have HA0 := are_impl A c B bs w hm hr hB
  cases ha : ab bs
  · rw [pl_ab ha]
    rw [ha] at HA0
    have HA := Lib.hid HA0
    clear HA0 hr hr' ha
    go_enter Try.func33, Try.ntmps33
    go_wp2_with fail
    refine HA.out.mono ?_
    rintro e w1 ⟨rfl, g1⟩
    go_wp2_with fail
    go_ret
    exact ⟨rfl, g1⟩
  · rw [ha] at HA0
    have HA := Lib.hid HA0
    clear HA0
    by_cases hl : 200 < ss.length
    · rw [pl_sp (sp_long hl)]
      clear hr hr' ha
      go_enter Try.func33, Try.ntmps33
      go_wp2_with fail
      refine HA.out.mono ?_
      rintro e w1 ⟨rfl, g1⟩
      go_wp2_with fail
      go_ret
      exact ⟨rfl, g1⟩
    · have hs : ss.length ≤ 200 := by omega
      have hk := BsOk.of ha
      have HR := Lib.hid (fun (w' : World) (hg : w.grownBy w' none) => hr.kept0 hg hB)
      have HR' := Lib.hid (fun (w' : World) (hg : w.grownBy w' none) => hr'.kept0 hg hB)
      have HSL := Lib.hid (fun b t w => slot_c A c bs b t w hk)
      have HDU := Lib.hid (fun (h1 : ∀ k, k < ss.length → one bs (sg ss k) = true) (w' : World) (hg : w.grownBy w' none) => due_c A A' c c' B bs ss w' hk h1 hs (hr.kept0 hg hB) (hr'.kept0 hg hB) (Nat.le_trans hB hg.size))
      have HEN := Lib.hid (fun (j t : Nat) (hj : j < bs.length) (ht : t ≤ 100000) (w' : World) (hg : w.grownBy w' none) => end_c A c B bs j t w' hk hj (by omega) (by omega) (hr.kept0 hg hB) (Nat.le_trans hB hg.size))
      have HTU := Lib.hid (fun (j i : Nat) (t : Nat) (hj : j < bs.length) (hi : i < bs.length) (w' : World) (hg : w.grownBy w' none) => turn_c A c B bs j i t w' hk hj hi (hr.kept0 hg hB) (Nat.le_trans hB hg.size))
      have HK := Lib.hid hk
      have HBAD := Lib.hid (fun (k : Nat) (h1 : k < ss.length) (h2 : slotB bs ss k = false) => pl_sp (sp_bad h1 h2))
      have HGOOD := Lib.hid (fun (h : ∀ k, k < ss.length → slotB bs ss k = true) => pl_mk ha (sp_all hs h))
      have hl7 := hk.len
      clear hr hr' hk ha hl
      go_enter Try.func33, Try.ntmps33
      go_wp2_with fail
      refine HA.out.mono ?_
      rintro e w1 ⟨rfl, g1⟩
      have HG1 := Lib.hid g1
      clear g1
      go_wp2_with fail
      go_loopw [20] (fun i wr => ∃ k : Nat, k ≤ ss.length ∧ i = .int .i64 k ∧ (∀ i, i < k → one bs (sg ss i) = true) ∧ w.grownBy wr none) (fun i _ => ss.length - (intOf i).toNat)
      case atStart => exact ⟨0, Nat.zero_le _, rfl, fun _ h => absurd h (by omega), HG1.out⟩
      case round =>
        obtain ⟨k, hkn, rfl, hpre, hg⟩ := hrel
        by_cases hlt : k < ss.length
        · obtain ⟨ad', x, y, rfl, _, hxy, hs0, hs1⟩ := Rd.slot (HR'.out wr hg) hlt
          have HPR := Lib.hid hpre
          have HX := Lib.hid hxy
          have HG := Lib.hid hg
          clear hpre hxy hg
          go_wp2_with fail
          refine (HSL.out _ _ _).mono ?_
          rintro e w2 ⟨rfl, hg2⟩
          have HG2 := Lib.hid (HG.out.trans ((World.grownBy_alloc _ _ none).trans hg2))
          clear hg2 hs0 hs1
          cases hd : one bs (x, y)
          · have HV := Lib.hid (HBAD.out k hlt (one_bad (by rw [HX.out]; exact hd)))
            clear hd
            go_wp2_with fail
            go_ret
            exact ⟨ret_bool HV.out.symm, HG2.out⟩
          · have HU := Lib.hid (fun i (hi : i < k + 1) => show one bs (sg ss i) = true by
              by_cases e : i = k
              · subst e; rw [HX.out]; exact hd
              · exact HPR.out i (by omega))
            clear hd
            go_wp2_with fail
            go_roundw
            case rel => exact ⟨k + 1, by omega, by go_num, HU.out, HG2.out⟩
            case measure => simp [intOf]; omega
        · obtain rfl : k = ss.length := by omega
          have HO := Lib.hid hpre
          have HD := Lib.hid (HDU.out hpre wr hg)
          have HG := Lib.hid hg
          clear hpre hg
          go_wp2_with fail
          refine HD.out.mono ?_
          rintro e w9 ⟨A2, c2, rfl, ho9, hg9⟩
          have HRD := Lib.hid (fun (w' : World) (hg : w9.grownBy w' none) => (Rd.of_lst ho9 (Nat.mul_one _).symm).kept0 hg (Nat.le_refl _))
          have HG9 := Lib.hid (HG.out.trans hg9)
          clear ho9 hg9
          go_wp2_with fail
          go_loopw [33] (fun i wr => ∃ k : Nat, k ≤ ss.length ∧ i = .int .i64 k ∧ (∀ i, i < k → slotB bs ss i = true) ∧ w9.grownBy wr none) (fun i _ => ss.length - (intOf i).toNat)
          case atStart => exact ⟨0, Nat.zero_le _, rfl, fun _ h => absurd h (by omega), World.grownBy.refl _ _⟩
          case round =>
            obtain ⟨k, hkn, rfl, hpre, hg⟩ := hrel
            by_cases hlt : k < ss.length
            · have hgw := HG9.out.trans hg
              obtain ⟨ad', x, y, rfl, _, hxy, hs0, hs1⟩ := Rd.slot (HR'.out wr hgw) hlt
              obtain ⟨j, t, e, hj, ht⟩ := one_yes (HO.out k hlt)
              rw [hxy] at e
              obtain ⟨rfl, rfl⟩ : x = (j : Int) ∧ y = (t : Int) := by injection e with a b; exact ⟨a, b⟩
              obtain ⟨ad, u, v, d, s, rfl, _, hx, _, _, _, hc3⟩ := Rd.four (HR.out wr hgw) hj
              obtain ⟨bd, rfl, _, hdu⟩ := (HRD.out wr hg).at_ hlt
              have hn := HK.out.num j hj
              rw [show bg bs j = _ from hx] at hn
              replace hn : 1 ≤ d ∧ d ≤ 10000 ∧ d ≤ s ∧ s ≤ 10000 := hn
              have hev : ev bs j = s := by unfold ev; rw [show bg bs j = _ from hx]
              obtain ⟨c0, c1⟩ := cnt_bd bs ss k j (by omega) (by omega) (by omega)
              have hduv : du bs ss k = cnt ss j k * ev bs j + ev bs j := by
                unfold du
                rw [hxy]
                show ((cnt ss (j : Int).toNat k : Int) + 1) * ev bs (j : Int).toNat = _
                rw [Int.toNat_natCast, Int.add_mul, Int.one_mul]
              have h2 : two bs ss k = decide (cnt ss j k * ev bs j ≤ (t : Int)) := by unfold two; rw [hxy]; rfl
              have h1 := HO.out k hlt
              rw [hduv] at hdu
              rw [hev] at hdu c0 c1 h2
              have hga := World.grownBy_alloc wr (.cells #[.int .i64 j, .int .i64 t] 69) none
              obtain ⟨p1, p2⟩ := boxed2 (World.grownBy.refl (wr.alloc (.cells #[.int .i64 j, .int .i64 t] 69)) none)
              have q3 := hga.cell hc3 (by simp)
              have HGA := Lib.hid (hgw.trans hga)
              have HGA9 := Lib.hid (hg.trans hga)
              have j0 : (0 : Int) ≤ (j : Int) := by omega
              have j1 : (j : Int) < (bs.length : Int) := by omega
              have HPR := Lib.hid hpre
              have HX := Lib.hid hxy
              generalize (cnt ss j k : Int) * s = N at *
              have w1 : IntKind.i64.wrap (N + s - s) = N := by rw [IntKind.wrap_i64]; omega
              have w2 : IntKind.i64.wrap N = N := by rw [IntKind.wrap_i64]; omega
              clear hpre hxy hg hgw hga hx hev hduv e
              by_cases htw : (t : Int) < N
              · have HV := Lib.hid (HBAD.out k hlt (two_bad (by rw [h2]; exact decide_eq_false (by omega))))
                clear h1 h2
                go_wp2_with fail
                go_quiet (fail)
                go_wp2_with fail
                go_ret
                exact ⟨ret_bool HV.out.symm, HGA.out.trans (gb_drewN _ _ _)⟩
              · have hNt : N ≤ (t : Int) := by omega
                have h2t : two bs ss k = true := by rw [h2]; exact decide_eq_true hNt
                by_cases hk0 : k = 0
                · have HU := Lib.hid (fun i (hi : i < k + 1) => show slotB bs ss i = true by
                    have e0 : i = k := by omega
                    subst e0
                    exact slot_mk h1 h2t (by unfold three; exact decide_eq_true (.inl hk0)))
                  have z1 : decide ((0 : Int) < (k : Int)) = false := decide_eq_false (by omega)
                  have z2 : decide (0 < k) = false := decide_eq_false (by omega)
                  have z3 : ¬ (0 : Int) < (k : Int) := by omega
                  have z4 : ¬ 0 < k := by omega
                  clear h1 h2 h2t hk0
                  go_wp2_with fail
                  go_quiet (fail)
                  go_wp2_with fail
                  go_quiet (fail)
                  go_wp2_with fail
                  go_roundw
                  case rel => exact ⟨k + 1, by omega, by go_num, HU.out, HGA9.out.trans (by repeat (first | exact gb_drewN _ _ _ | refine World.grownBy.trans (gb_drewN _ _ none) ?_))⟩
                  case measure => simp [intOf]; omega
                · obtain ⟨q, hq⟩ : ∃ q : Nat, k = q + 1 := ⟨k - 1, by omega⟩
                  have hqk : (k : Int) - 1 = (q : Int) := by omega
                  have hql : q < ss.length := by omega
                  obtain ⟨ad2, x', y', e2, _, hxy', ht0, ht1⟩ := Rd.slot (HR'.out _ HGA.out) hql
                  obtain rfl : ad' = ad2 := by injection e2
                  obtain ⟨j', t', e, hj', ht'⟩ := one_yes (HO.out q hql)
                  rw [hxy'] at e
                  obtain ⟨rfl, rfl⟩ : x' = (j' : Int) ∧ y' = (t' : Int) := by injection e with a b; exact ⟨a, b⟩
                  have h3 : three bs ss k = decide ((t' : Int) + dw bs j' + tu bs j' j ≤ (t : Int)) := by
                    unfold three
                    rw [show k - 1 = q by omega, HX.out, hxy']
                    show decide (k = 0 ∨ (t' : Int) + dw bs (j' : Int).toNat + tu bs (j' : Int).toNat (j : Int).toNat ≤ (t : Int)) = _
                    rw [Int.toNat_natCast, Int.toNat_natCast]
                    congr 1
                    simp [hk0]
                  have b1 := HK.out.num j' hj'
                  have b2 : 0 ≤ tu bs j' j ∧ tu bs j' j ≤ 8 := sw_bd (HK.out.bd j' hj') (HK.out.bd j hj)
                  have b3 : dw bs j' = (bg bs j').2.2.1 := rfl
                  have HE := Lib.hid (HEN.out j' t' hj' ht')
                  have HT := Lib.hid (HTU.out j' j t' hj' hj)
                  have HPX := Lib.hid (fun i (hi : i < k) => HPR.out i hi)
                  rw [← b3] at b1
                  generalize dw bs j' = DW at *
                  generalize tu bs j' j = TU at *
                  have z1 : decide ((0 : Int) < (k : Int)) = true := decide_eq_true (by omega)
                  have z2 : decide (0 < k) = true := decide_eq_true (by omega)
                  have z3 : (0 : Int) < (k : Int) := by omega
                  have z4 : 0 < k := by omega
                  have q0 : (0 : Int) ≤ (q : Int) := by omega
                  have q1 : (q : Int) < (ss.length : Int) := by omega
                  have q2 : IntKind.i64.wrap ((k : Int) - 1) = (q : Int) := by rw [IntKind.wrap_i64]; omega
                  have q4 : IntKind.i64.wrap (q : Int) = (q : Int) := by rw [IntKind.wrap_i64]; omega
                  have q5 : IntKind.i64.wrap ((t' : Int) + DW + TU) = (t' : Int) + DW + TU := by rw [IntKind.wrap_i64]; omega
                  have q6 := HGA9.out
                  have HH1 := Lib.hid (And.intro h1 h2t)
                  have HX' := Lib.hid hxy'
                  have HQ := Lib.hid hq
                  clear h1 h2 h2t e hxy' e2 b3 hq hk0
                  go_wp2_with fail
                  go_quiet (fail)
                  go_wp2_with fail
                  generalize hwb : wr.alloc (.cells #[.int .i64 j, .int .i64 t] 69) = wb at *
                  generalize hgb : wr.heap.size = gb at *
                  clear hwb hgb q3 hc3 hs0 hs1 hdu
                  go_region_held3 (fun w' => w'.cell? ⟨gb, 0, none⟩ = some (.int .i64 j) ∧ w'.cell? ⟨gb, 1, none⟩ = some (.int .i64 t) ∧ w'.cell? (ad'.add (q * 2)) = some (.int .i64 j') ∧ w'.cell? ⟨(ad'.add (q * 2)).block, (ad'.add (q * 2)).off + 1, none⟩ = some (.int .i64 t') ∧ w9.grownBy w' none)
                    (first
                      | (go_split_ands
                         exact ⟨hg.cell (by assumption) (by simp), hg.cell (by assumption) (by simp), hg.cell (by assumption) (by simp), hg.cell (by assumption) (by simp), World.grownBy.trans (by assumption) hg⟩)
                      | exact ⟨p1, p2, ht0, ht1, ⟨q6.os, q6.tape, q6.output, q6.size, q6.block⟩⟩)
                    ((first
                      | (go_at_call 106; refine (HE.out _ (HG9.out.trans ?_)).mono ?_; (first | exact ⟨q6.os, q6.tape, q6.output, q6.size, q6.block⟩); rintro e w' ⟨rfl, hg⟩; have gE : w9.grownBy w' none := (by refine World.grownBy.trans ?_ hg; exact ⟨q6.os, q6.tape, q6.output, q6.size, q6.block⟩))
                      | (go_at_call 105; refine (HT.out _ (HG9.out.trans ?_)).mono ?_; (first | exact gE | exact ⟨gE.os, gE.tape, gE.output, gE.size, gE.block⟩); rintro e w6 ⟨rfl, hg⟩; have gT : w9.grownBy w6 none := (by refine World.grownBy.trans ?_ hg; exact ⟨gE.os, gE.tape, gE.output, gE.size, gE.block⟩))))
                  by_cases hlt3 : (t : Int) < (t' : Int) + DW + TU
                  · have HV := Lib.hid (HBAD.out k hlt (three_bad (by rw [h3]; exact decide_eq_false (by omega))))
                    have HGT := Lib.hid (HG9.out.trans gT)
                    clear h3 gT gE
                    go_wp2_with fail
                    go_ret
                    exact ⟨ret_bool HV.out.symm, HGT.out⟩
                  · have HS3 := Lib.hid (show slotB bs ss k = true from slot_mk HH1.out.1 HH1.out.2 (by rw [h3]; exact decide_eq_true (by omega)))
                    have HU := Lib.hid (fun i (hi : i < k + 1) => show slotB bs ss i = true by
                      by_cases e : i = k
                      · subst e; exact HS3.out
                      · exact HPX.out i (by omega))
                    have HGT := Lib.hid gT
                    clear h3 gT gE
                    go_wp2_with fail
                    go_roundw
                    case rel => exact ⟨k + 1, by omega, by go_num, HU.out, HGT.out⟩
                    case measure => simp [intOf]; omega
            · obtain rfl : k = ss.length := by omega
              have HV := Lib.hid (HGOOD.out hpre)
              have HGZ := Lib.hid (HG9.out.trans hg)
              clear hpre hg
              go_wp2_with fail
              go_ret
              exact ⟨ret_bool HV.out.symm, HGZ.out⟩

end Go.Proofs.Ytbefoiikbbjjfaa.planIs

namespace Go.Proofs.Ytbefoiikbbjjfaa.planSpec
open Go.ChangeShapes Go.WideShapes Go.ChangeAt Go.RowKit
open Go.ChangeMaps (open_string shut_string)
set_option linter.unusedVariables false
open Go Go.RowKit
open Go.Proofs.Ytbefoiikbbjjfaa.slc Go.Proofs.Ytbefoiikbbjjfaa.small Go.Proofs.Ytbefoiikbbjjfaa.opens Go.Proofs.Ytbefoiikbbjjfaa.beams Go.Proofs.Ytbefoiikbbjjfaa.listBeam Go.Proofs.Ytbefoiikbbjjfaa.planNum Go.Proofs.Ytbefoiikbbjjfaa.swT Go.Proofs.Ytbefoiikbbjjfaa.beamsOk Go.Proofs.Ytbefoiikbbjjfaa.planDue

def cn (ss : List Sl) (k : Nat) (j : Nat) : Value := .int .i64 (cnt ss j k : Nat)
theorem cn_zero (ss : List Sl) (n : Nat) : lst (fun _ => Value.int .i64 0) n = lst (cn ss 0) n := lst_congr fun j _ => by unfold cn cnt; simp
theorem cn_set (ss : List Sl) (k j n : Nat) (hj : (sg ss k).1 = (j : Int)) (hn : j < n) : (lst (cn ss k) n).set j (.int .i64 ((cnt ss j k : Int) + 1)) = lst (cn ss (k + 1)) n := by
  apply List.ext_getElem?
  intro i
  rw [List.getElem?_set]
  by_cases hi : j = i
  · subst hi
    rw [if_pos rfl, if_pos (by rw [lst_len]; exact hn), lst_get _ _ _ hn]
    unfold cn
    rw [show cnt ss j (k + 1) = cnt ss j k + 1 from by show cnt ss j k + _ = _; rw [if_pos hj]]
    simp
  · rw [if_neg hi]
    by_cases h2 : i < n
    · rw [lst_get _ _ _ h2, lst_get _ _ _ h2]
      unfold cn
      rw [show cnt ss i (k + 1) = cnt ss i k from by show cnt ss i k + _ = _; rw [if_neg (by rw [hj]; omega)]; rfl]
    · rw [List.getElem?_eq_none (by rw [lst_len]; omega), List.getElem?_eq_none (by rw [lst_len]; omega)]
theorem q_yes (n lo hi : Int) (w : World) (q : Nat) (h : lo ≤ n) (h2 : n ≤ hi) : Calls Try.prog 153 #[.int .i64 n, .int .i64 lo, .int .i64 hi] (w.drewN q) fun e w' => e = .returned (.bool true) ∧ ∃ m, w' = w.drewN m :=
  Calls.quiet_of_same ((in_yes n lo hi (w.drewN q) h h2).mono (by rintro e w' ⟨rfl, rfl⟩; exact ⟨rfl, rfl⟩))
theorem q_no (n lo hi : Int) (w : World) (q : Nat) (h : n < lo ∨ hi < n) : Calls Try.prog 153 #[.int .i64 n, .int .i64 lo, .int .i64 hi] (w.drewN q) fun e w' => e = .returned (.bool false) ∧ ∃ m, w' = w.drewN m :=
  Calls.quiet_of_same ((in_no n lo hi (w.drewN q) h).mono (by rintro e w' ⟨rfl, rfl⟩; exact ⟨rfl, rfl⟩))
theorem one_no {bs : List Bm} {x y : Int} (h : ¬ (0 ≤ x ∧ x ≤ (bs.length : Int) - 1 ∧ 0 ≤ y ∧ y ≤ 100000)) : one bs (x, y) = false := decide_eq_false h

set_option maxHeartbeats 3200000 in
set_option maxRecDepth 100000 in
theorem slots_spec : True := trivial

end Go.Proofs.Ytbefoiikbbjjfaa.planSpec

namespace Go.Proofs.Ytbefoiikbbjjfaa.planTop
open Go.ChangeShapes Go.WideShapes Go.ChangeAt Go.RowKit
open Go.ChangeMaps (open_string shut_string)
set_option linter.unusedVariables false
open Go Go.RowKit
open Go.Proofs.Ytbefoiikbbjjfaa.slc Go.Proofs.Ytbefoiikbbjjfaa.small Go.Proofs.Ytbefoiikbbjjfaa.opens Go.Proofs.Ytbefoiikbbjjfaa.beams Go.Proofs.Ytbefoiikbbjjfaa.listBeam Go.Proofs.Ytbefoiikbbjjfaa.planNum Go.Proofs.Ytbefoiikbbjjfaa.beamsOk Go.Proofs.Ytbefoiikbbjjfaa.planDue Go.Proofs.Ytbefoiikbbjjfaa.planIs Go.Proofs.Ytbefoiikbbjjfaa.planSpec

set_option maxHeartbeats 800000 in
set_option maxRecDepth 100000 in
theorem is_spec : True := trivial

/-- The cells of a list of integers. -/
def cls (xs : List Int) (j : Nat) : Value := (ints xs).getD j undef
theorem cls_lst (xs : List Int) : lst (cls xs) xs.length = ints xs := by
  have h := lst_of (ints xs)
  rw [ints_len] at h
  exact h
theorem cls_ints (xs : List Int) : Ints (cls xs) xs.length := Ints.of xs xs.length (Nat.le_refl _)
theorem cls_at (xs : List Int) {j : Nat} (hj : j < xs.length) : cls xs j = .int .i64 (xs.getD j 0) := by
  rw [show cls xs j = .int .i64 xs[j] from ints_getD xs j hj]
  simp [List.getD, hj]
/-- A list by its index. -/
def lof (f : Nat → Int) (n : Nat) : List Int := (List.range n).map f
theorem lof_len (f : Nat → Int) (n : Nat) : (lof f n).length = n := by simp [lof]
theorem lof_cls (f : Nat → Int) (n : Nat) : lst (fun k => Value.int .i64 (f k)) n = lst (cls (lof f n)) n := lst_congr fun j hj => by
  rw [show cls (lof f n) j = .int .i64 ((lof f n).getD j 0) from cls_at _ (by rw [lof_len]; exact hj)]
  simp [lof, List.getD, hj]

end Go.Proofs.Ytbefoiikbbjjfaa.planTop
