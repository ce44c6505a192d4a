/- Plans by due ticks, by the model. -/
import Derived.Test.YtmemclcoegmjjaaRows
import Derived.Test.YtmemclcoegmjjaaSlc
import Derived.Test.YtmemclcoegmjjaaSmall
import Derived.Test.YtmemclcoegmjjaaOpens
import Derived.Test.YtmemclcoegmjjaaListI
import Derived.Test.YtmemclcoegmjjaaNestI
import Derived.Test.YtmemclcoegmjjaaBeams
import Derived.Test.YtmemclcoegmjjaaListBeam
import Derived.Test.YtmemclcoegmjjaaListSlot
import Derived.Test.YtmemclcoegmjjaaListDir
import Derived.Test.YtmemclcoegmjjaaPlanNum
import Derived.Test.YtmemclcoegmjjaaSwT
import Derived.Test.YtmemclcoegmjjaaBeamsOk
import Derived.Test.YtmemclcoegmjjaaPlanDue
import Derived.Test.YtmemclcoegmjjaaPlanIs
import Derived.Test.YtmemclcoegmjjaaFarF
import Derived.Test.YtmemclcoegmjjaaNestG
import Derived.Test.YtmemclcoegmjjaaHeapN
import Derived.Test.YtmemclcoegmjjaaHeapM
import Derived.Test.YtmemclcoegmjjaaHeapW
import Derived.Test.YtmemclcoegmjjaaHeapU
import Derived.Test.YtmemclcoegmjjaaHeapP
import Derived.Test.YtmemclcoegmjjaaPlanP
import Derived.Test.YtmemclcoegmjjaaPlanQ
import Derived.Test.YtmemclcoegmjjaaJobsQ
import Derived.Test.YtmemclcoegmjjaaPlanI
import Derived.WalkKit
import Derived.ProofKit
import Derived.OpenShut
import Derived.ShutString
import Derived.ChangeOld
import Derived.Below
import Derived.Lib.Hide
import Derived.BigQuiet
import Derived.Deep.QuietTactic
import Derived.WalkLawsBesides
import Derived.Outline
import Derived.Deep.QuietTactic
import Derived.BigQuiet
import Derived.BigRegion
import Derived.Deep.LoopGhost
import Derived.Deep.RegionHeld3
import Derived.Deep.RegionWith
import Derived.Maps.AppendAt
import Derived.RangeFuncBox
import Derived.WalkMore
import Derived.Deep.DeepCutAuto
namespace Go.Proofs.Ytmemclcoegmjjaa.planM
open Go.ChangeShapes Go.WideShapes Go.ChangeAt Go.RowKit
open Go.ChangeMaps (open_string shut_string)
set_option linter.unusedVariables false
open Go Go.RowKit
open Go.Proofs.Ytmemclcoegmjjaa.slc Go.Proofs.Ytmemclcoegmjjaa.small Go.Proofs.Ytmemclcoegmjjaa.opens Go.Proofs.Ytmemclcoegmjjaa.beams Go.Proofs.Ytmemclcoegmjjaa.listBeam Go.Proofs.Ytmemclcoegmjjaa.planNum Go.Proofs.Ytmemclcoegmjjaa.beamsOk Go.Proofs.Ytmemclcoegmjjaa.planDue Go.Proofs.Ytmemclcoegmjjaa.planP Go.Proofs.Ytmemclcoegmjjaa.planI Go.Proofs.Ytmemclcoegmjjaa.swT

def bv : Option Nat → Value | none => .int .i64 (-1) | some b => .int .i64 (b : Int)
def nv (nx : Nat → Nat) (j : Nat) : Value := .int .i64 (nx j : Int)
/-- What lies there between two jobs. -/
structure MS (bs : List Bm) (un : Int) (R : List Sl) (w : World) (nb : Nat) (wr : World) (out : List Sl) (O : Option Addr) (d : Nat) (ck : Int) (nx : Nat → Nat) : Prop where
  pi : PI bs nx ck out
  tell : Tell bs un nx ck out R
  row : wr.ownsRow w.heap.size 71 2 (.slice O out.length d) out.length (lst (pcell out) (out.length * 2))
  nr : wr.ownsRow w.heap.size 2 1 (.slice (some ⟨nb, 0, none⟩) bs.length bs.length) bs.length (lst (nv nx) bs.length)
  ne : O.map Addr.block ≠ some nb
  gb : w.grownBy wr none
theorem MS.keep {bs : List Bm} {un : Int} {R : List Sl} {w wr wy : World} {nb : Nat} {out : List Sl} {O : Option Addr} {d : Nat} {ck : Int} {nx : Nat → Nat} (h : MS bs un R w nb wr out O d ck nx) (hg : wr.grownBy wy none) : MS bs un R w nb wy out O d ck nx :=
  ⟨h.pi, h.tell, own_kept0 h.row hg, own_kept0 h.nr hg, h.ne, h.gb.trans hg⟩
theorem nv_set (nx : Nat → Nat) (b n : Nat) (hb : b < n) : (lst (nv nx) n).set b (.int .i64 ((nx b : Int) + 1)) = lst (nv (upd nx b)) n := by
  apply List.ext_getElem?
  intro i
  rw [List.getElem?_set]
  by_cases hi : b = i
  · subst hi
    rw [if_pos rfl, if_pos (by rw [lst_len]; exact hb), lst_get _ _ _ hb]
    unfold nv upd
    rw [if_pos rfl]
    simp
  · rw [if_neg hi]
    by_cases h2 : i < n
    · rw [lst_get _ _ _ h2, lst_get _ _ _ h2]
      unfold nv upd
      rw [if_neg (fun e => hi e.symm)]
    · rw [List.getElem?_eq_none (by rw [lst_len]; omega), List.getElem?_eq_none (by rw [lst_len]; omega)]
set_option maxRecDepth 100000 in
/-- One slot more. -/
theorem MS.app {bs : List Bm} {un : Int} {R : List Sl} {w wr : World} {nb : Nat} {out : List Sl} {O : Option Addr} {d : Nat} {ck : Int} {nx : Nat → Nat} (h : MS bs un R w nb wr out O d ck nx) (hm : out.length < 200) (hnb : w.heap.size ≤ nb) {b : Nat} (hb : b < bs.length) {T : Int} {out2 : List Sl} (h2 : out2 = out ++ [((b : Int), T)]) :
    ∃ O' d' w6, (nestG.appS #[56, 56] 56 #[.slice O out.length d, .slice (some ⟨wr.heap.size, 0, none⟩) 1 1]).run Try.prog (wr.alloc (.cells #[.int .i64 (b : Int), .int .i64 T] 71)) = .ok (.slice O' out2.length d') w6 ∧
      w6.cell? ⟨nb, b, none⟩ = some (.int .i64 (nx b : Int)) ∧ w6.frozen? ⟨nb, b, none⟩ = false ∧ w.grownBy w6 none ∧
      (PI bs (upd nx b) (T + dw bs b) out2 → Tell bs un (upd nx b) (T + dw bs b) out2 R → MS bs un R w nb (w6.setCell ⟨nb, b, none⟩ (.int .i64 ((nx b : Int) + 1))) out2 O' d' (T + dw bs b) (upd nx b)) := by
  obtain ⟨i0, hi0, hz0, hz1, hz2⟩ := info_parts infoS
  have g0 : wr.grownBy (wr.alloc (.cells #[.int .i64 (b : Int), .int .i64 T] 71)) none := World.grownBy_alloc wr (.cells #[.int .i64 (b : Int), .int .i64 T] 71) none
  have hnl := (own_base h.nr nb rfl).2
  have hw := h.gb.size
  obtain ⟨v6, w6, hrun, r1, r2, _, r3⟩ := run_append_own_at (P := Try.prog) (w := (wr.alloc (.cells #[.int .i64 (b : Int), .int .i64 T] 71))) w.heap.size 56 56 71 i0 (.agg #[.int .i64 0, .int .i64 0]) 2 16 Try.underlying56 hi0 hz0 hz1 hz2 rfl (by decide) _ _ _ (own_kept0 h.row g0) ⟨wr.heap.size, 0, none⟩ 1 1 [.int .i64 (b : Int), .int .i64 T] rfl (World.news_of_block (cs := #[.int .i64 (b : Int), .int .i64 T]) (t := 71) (fr := (0, 0)) (heap_alloc_new wr _)) (by intro u hu; simp at hu; rcases hu with rfl | rfl <;> rfl) (by unfold maxLen; omega) (by omega) (by have := g0.size; omega)
  obtain ⟨A6, c6, rfl⟩ := nestG.row_slice r1
  rw [own_blk] at r2
  rw [own_blk, own_blk] at r3
  have hl2 : out2.length = out.length + 1 := by rw [h2, List.length_append, List.length_singleton]
  have r2 : wr.grownBy w6 (O.map Addr.block) := (gb_any g0 _).trans r2
  have hob := own_base h.row
  have hne6 : A6.map Addr.block ≠ some nb := fun e => by
    rcases r3 with r3 | r3
    · exact h.ne (r3.symm.trans e)
    · rw [r3] at e; injection e with e; have := g0.size; omega
  have n6 : w6.ownsRow w.heap.size 2 1 (.slice (some ⟨nb, 0, none⟩) bs.length bs.length) bs.length (lst (nv nx) bs.length) := row_keep h.nr fun g e => by
    injection e with e
    subst e
    exact r2.block nb hnl (fun e => h.ne e.symm)
  have g6 : w.grownBy w6 none := gb_new h.gb r2 (fun g e => (hob g e).1)
  have c6' := n6.cellAt b (by omega)
  rw [lst_get _ _ _ hb] at c6'
  refine ⟨A6, c6, w6, by rw [hl2]; exact hrun, c6', n6.frozenAt b, g6, fun hp ht => ?_⟩
  obtain ⟨p1, p2⟩ := n6.stored b (.int .i64 ((nx b : Int) + 1))
  rw [nv_set nx b _ hb] at p1
  have row6 : w6.ownsRow w.heap.size 71 2 (.slice A6 out2.length c6) out2.length (lst (pcell out2) (out2.length * 2)) := by
    rw [h2, listDir.pcell_snoc]
    simpa using r1
  exact ⟨hp, ht, row_keep row6 (fun g e => p2.block g (own_base row6 g e).2 (fun e2 => hne6 (e.trans e2))), p1, hne6, gb_new g6 p2 (fun g e => by injection e with e; omega)⟩
theorem nv_zero (n : Nat) : lst (fun _ => Value.int .i64 0) n = lst (nv fun _ => 0) n := lst_congr fun j _ => by unfold nv; simp
attribute [local go_sem ↓] nestG.app_stop
set_option maxHeartbeats 3200000 in
set_option maxRecDepth 100000 in
theorem plan_m (A : Option Addr) (c B : Nat) (bs : List Bm) (un : Int) (R : List Sl) (w : World) (ha : ab bs = true) (hu : 0 ≤ un ∧ un ≤ 10000) (hT : Tell bs un (fun _ => 0) 0 [] R) (hr : Rd w B A (bs.length * 4) (bcell bs)) (hB : B ≤ w.heap.size) :
    Calls Try.prog 123 #[.slice A bs.length c, .int .i64 un] w fun e w' => ∃ O d, e = .returned (.slice O R.length d) ∧ w'.ownsRow w.heap.size 71 2 (.slice O R.length d) R.length (lst (pcell R) (R.length * 2)) ∧ w.grownBy w' none := by
  obtain ⟨l1, l7⟩ := ab_len ha
  have HAB := Lib.hid ha
  have HR := Lib.hid hr
  have HT := Lib.hid hT
  have hmk := make64 bs.length (by omega)
  have HS := Lib.hid (show MS bs un R w (w.heap.size + 1) ((w.alloc (.cells #[] 71)).alloc (.cells (madeCells #[.int .i64 0] bs.length) 2)) [] (some ⟨w.heap.size, 0, none⟩) 0 0 (fun _ => 0) from by
    have g1 := World.grownBy_alloc w (.cells #[] 71) none
    have g2 := World.grownBy_alloc (w.alloc (.cells #[] 71)) (.cells (madeCells #[.int .i64 0] bs.length) 2) none
    have r2 := own_made (w.alloc (.cells #[] 71)) w.heap.size bs.length g1.size (by omega)
    rw [nv_zero] at r2
    have e : (w.alloc (.cells #[] 71)).heap.size = w.heap.size + 1 := by simp
    rw [e] at r2
    exact ⟨PI.start, hT, own_kept0 (World.ownsRow_lit w #[] 0 (Nat.le_refl _) (by decide) rfl) g2, r2, fun e => by injection e with e; dsimp only at e; omega, g1.trans g2⟩)
  clear ha hr hT
  go_enter Try.func123, Try.ntmps123
  go_wp2_with fail
  go_loopw [5, 7] (fun p q wr => ∃ (out : List Sl) (O : Option Addr) (d : Nat) (ck : Int) (nx : Nat → Nat), p = .slice O out.length d ∧ q = .int .i64 ck ∧ MS bs un R w (w.heap.size + 1) wr out O d ck nx) (fun p q _ => (200 - slN p) * 30000 + (20001 - intOf q).toNat)
  case atStart => exact ⟨[], _, _, _, _, rfl, rfl, HS.out⟩
  case round =>
    obtain ⟨out, O, d, ck, nx, rfl, rfl, hm⟩ := hrel
    have HM := Lib.hid hm
    clear hm HS hmk
    by_cases hl : out.length < 200
    · have j1 : decide (out.length < 200) = true := decide_eq_true hl
      have j2 : (out.length : Int) < 200 := by omega
      have j3 : decide ((out.length : Int) < 200) = true := decide_eq_true j2
      have l0 : (0 : Int) < (bs.length : Int) := by omega
      go_wp2_with fail
      go_loopw [22, 8, 9] (fun i b s wx => ∃ k : Nat, k ≤ bs.length ∧ i = .int .i64 k ∧ b = bv (bst bs nx ck k) ∧ s = .int .i64 (soon bs nx k) ∧ wr.grownBy wx none) (fun i _ _ _ => bs.length - (intOf i).toNat)
      case atStart => exact ⟨0, Nat.zero_le _, rfl, rfl, rfl, World.grownBy.refl _ _⟩
      case round =>
        obtain ⟨k, hk, rfl, rfl, rfl, hg⟩ := hrel
        by_cases hlt : k < bs.length
        · obtain ⟨ad, u, v, dw', s, rfl, _, hbg, _, _, _, hc3⟩ := Rd.four (HR.out.kept0 (HM.out.gb.trans hg) hB) hlt
          have hev : ev bs k = s := by unfold ev bg; rw [hbg]
          have hn := ab_num HAB.out hlt
          rw [show (bg bs k).2.2.2 = s from hev] at hn
          have n0 := (own_kept0 HM.out.nr hg).cellAt k (by omega)
          rw [lst_get _ _ _ hlt] at n0
          unfold nv at n0
          obtain ⟨x0, x1⟩ := HM.out.pi.com k hlt
          have HX := Lib.hid (show com bs nx k = nx k * s by unfold planP.com; rw [hev])
          have HSOON := Lib.hid (show soon bs nx (k + 1) = if k = 0 ∨ com bs nx k < soon bs nx k then com bs nx k else soon bs nx k from rfl)
          have HBST := Lib.hid (show bst bs nx ck (k + 1) = match bst bs nx ck k with
            | none => if com bs nx k ≤ ck then some k else none
            | some b => if com bs nx k ≤ ck ∧ com bs nx k + ev bs k < com bs nx b + ev bs b then some k else some b from rfl)
          rw [hev] at HBST
          have HS0 := Lib.hid (show (k = 0 ∧ soon bs nx k = -1) ∨ (k ≠ 0 ∧ 0 ≤ soon bs nx k) from by
            by_cases h0 : k = 0
            · subst h0; exact .inl ⟨rfl, rfl⟩
            · obtain ⟨_, i, hi, e⟩ := soon_le bs nx k (by omega)
              have := (HM.out.pi.com i (by omega)).1
              exact .inr ⟨h0, by omega⟩)
          have HB := Lib.hid (fun (b : Nat) (e : bst bs nx ck k = some b) => (bst_some e).1)
          generalize soon bs nx k = S at *
          generalize hse : soon bs nx (k + 1) = S' at *
          generalize hbe : bst bs nx ck (k + 1) = b' at *
          have HE := Lib.hid (And.intro hse hbe)
          clear hse hbe
          have HG := Lib.hid hg
          have k0 : (0 : Int) ≤ (k : Int) := by omega
          have k1 : (k : Int) < (bs.length : Int) := by omega
          rw [HX.out] at x0 x1 HSOON
          generalize hX : (nx k : Int) * s = X at *
          have w1 : IntKind.i64.wrap X = X := by rw [IntKind.wrap_i64]; omega
          have w2 : IntKind.i64.wrap (X + s) = X + s := by rw [IntKind.wrap_i64]; omega
          clear hbg hg hev
          have HA : Hid (S < 0 ∧ S' = X) ∨ Hid (¬ S < 0 ∧ X < S ∧ S' = X) ∨ Hid (¬ S < 0 ∧ ¬ X < S ∧ S' = S) := by
            rcases HS0.out with ⟨e, h⟩ | ⟨e, h⟩
            · exact .inl (Lib.hid ⟨by omega, by rw [HSOON.out, if_pos (.inl e)]⟩)
            · by_cases h2 : X < S
              · exact .inr (.inl (Lib.hid ⟨by omega, h2, by rw [HSOON.out, if_pos (.inr h2)]⟩))
              · exact .inr (.inr (Lib.hid ⟨by omega, h2, by rw [HSOON.out, if_neg (by omega)]⟩))
          clear HS0 HSOON
          rcases HA with HA | HA | HA
          · obtain ⟨a1, a2⟩ := HA.out
            have a3 : decide (S < 0) = true := decide_eq_true a1
            have HSO := Lib.hid a2
            clear a2 HA
            generalize hV : bv (bst bs nx ck k) = V at *
            by_cases hc : X ≤ ck
            · have c1 : decide (X ≤ ck) = true := decide_eq_true hc
              cases hb : bst bs nx ck k with
              | none =>
                obtain rfl : V = .int .i64 (-1) := by rw [← hV, hb]; rfl
                have HBS := Lib.hid (show b' = some k by rw [HBST.out, hb, HX.out]; exact if_pos hc)
                clear hV HBST hb HB
                go_wp2_with fail
                go_quiet (fail)
                go_wp2_with fail
                go_quiet (fail)
                go_wp2_with fail
                have g := HG.out
                go_roundw
                case rel => exact ⟨k + 1, by omega, by go_num, by rw [HE.out.2, HBS.out]; rfl, by rw [HE.out.1, HSO.out], ⟨g.os, g.tape, g.output, g.size, g.block⟩⟩
                case measure => simp [intOf]; omega
              | some b =>
                obtain rfl : V = .int .i64 (b : Int) := by rw [← hV, hb]; rfl
                have hbk := HB.out b hb
                have hbl : b < bs.length := by omega
                obtain ⟨ad2, u2, v2, d2, s2, e2, _, hbg2, _, _, _, hd3⟩ := Rd.four (HR.out.kept0 (HM.out.gb.trans HG.out) hB) hbl
                obtain rfl : ad = ad2 := by injection e2
                have hev2 : ev bs b = s2 := by unfold ev bg; rw [hbg2]
                have hn2 := ab_num HAB.out hbl
                rw [show (bg bs b).2.2.2 = s2 from hev2] at hn2
                have m0 := (own_kept0 HM.out.nr HG.out).cellAt b (by omega)
                rw [lst_get _ _ _ hbl] at m0
                unfold nv at m0
                obtain ⟨y0, y1⟩ := HM.out.pi.com b hbl
                have hY : com bs nx b = nx b * s2 := by unfold planP.com; rw [hev2]
                have HBS0 := Lib.hid (show b' = if X ≤ ck ∧ X + s < nx b * s2 + s2 then some k else some b by rw [HBST.out, hb, HX.out]; show (if X ≤ ck ∧ X + s < com bs nx b + ev bs b then some k else some b) = _; rw [hY, hev2])
                rw [hY] at y0 y1
                clear hV HBST hb HB hev2 hbg2 e2 hY
                generalize hY : (nx b : Int) * s2 = Y at *
                have w3 : IntKind.i64.wrap Y = Y := by rw [IntKind.wrap_i64]; omega
                have w4 : IntKind.i64.wrap (Y + s2) = Y + s2 := by rw [IntKind.wrap_i64]; omega
                have b0 : ¬ (b : Int) < 0 := by omega
                have b1 : (0 : Int) ≤ (b : Int) := by omega
                have b2 : (b : Int) < (bs.length : Int) := by omega
                have b3 : decide ((b : Int) < 0) = false := decide_eq_false b0
                by_cases hy : X + s < Y + s2
                · have y2 : decide (X + s < Y + s2) = true := decide_eq_true hy
                  have HBS := Lib.hid (show b' = some k by rw [HBS0.out]; exact if_pos ⟨hc, hy⟩)
                  clear HBS0
                  go_wp2_with fail
                  go_quiet (fail)
                  go_wp2_with fail
                  go_quiet (fail)
                  go_wp2_with fail
                  have g := HG.out
                  go_roundw
                  case rel => exact ⟨k + 1, by omega, by go_num, by rw [HE.out.2, HBS.out]; rfl, by rw [HE.out.1, HSO.out], ⟨g.os, g.tape, g.output, g.size, g.block⟩⟩
                  case measure => simp [intOf]; omega
                · have y2 : decide (X + s < Y + s2) = false := decide_eq_false hy
                  have HBS := Lib.hid (show b' = some b by rw [HBS0.out]; exact if_neg (fun h => hy h.2))
                  clear HBS0
                  go_wp2_with fail
                  go_quiet (fail)
                  go_wp2_with fail
                  go_quiet (fail)
                  go_wp2_with fail
                  have g := HG.out
                  go_roundw
                  case rel => exact ⟨k + 1, by omega, by go_num, by rw [HE.out.2, HBS.out]; rfl, by rw [HE.out.1, HSO.out], ⟨g.os, g.tape, g.output, g.size, g.block⟩⟩
                  case measure => simp [intOf]; omega
            · have c1 : decide (X ≤ ck) = false := decide_eq_false hc
              have HBS := Lib.hid (show b' = bst bs nx ck k from by
                rw [HBST.out, HX.out]
                cases bst bs nx ck k with
                | none => exact if_neg hc
                | some b => exact if_neg (fun h => hc h.1))
              have HVV := Lib.hid hV
              clear hV HBST HB
              go_wp2_with fail
              go_quiet (fail)
              go_wp2_with fail
              go_quiet (fail)
              go_wp2_with fail
              have g := HG.out
              go_roundw
              case rel => exact ⟨k + 1, by omega, by go_num, by rw [HE.out.2, HBS.out, HVV.out], by rw [HE.out.1, HSO.out], ⟨g.os, g.tape, g.output, g.size, g.block⟩⟩
              case measure => simp [intOf]; omega
          · obtain ⟨a1, a4, a2⟩ := HA.out
            have a3 : decide (S < 0) = false := decide_eq_false a1
            have a5 : decide (X < S) = true := decide_eq_true a4
            have HSO := Lib.hid a2
            clear a2 HA
            generalize hV : bv (bst bs nx ck k) = V at *
            by_cases hc : X ≤ ck
            · have c1 : decide (X ≤ ck) = true := decide_eq_true hc
              cases hb : bst bs nx ck k with
              | none =>
                obtain rfl : V = .int .i64 (-1) := by rw [← hV, hb]; rfl
                have HBS := Lib.hid (show b' = some k by rw [HBST.out, hb, HX.out]; exact if_pos hc)
                clear hV HBST hb HB
                go_wp2_with fail
                go_quiet (fail)
                go_wp2_with fail
                go_quiet (fail)
                go_wp2_with fail
                have g := HG.out
                go_roundw
                case rel => exact ⟨k + 1, by omega, by go_num, by rw [HE.out.2, HBS.out]; rfl, by rw [HE.out.1, HSO.out], ⟨g.os, g.tape, g.output, g.size, g.block⟩⟩
                case measure => simp [intOf]; omega
              | some b =>
                obtain rfl : V = .int .i64 (b : Int) := by rw [← hV, hb]; rfl
                have hbk := HB.out b hb
                have hbl : b < bs.length := by omega
                obtain ⟨ad2, u2, v2, d2, s2, e2, _, hbg2, _, _, _, hd3⟩ := Rd.four (HR.out.kept0 (HM.out.gb.trans HG.out) hB) hbl
                obtain rfl : ad = ad2 := by injection e2
                have hev2 : ev bs b = s2 := by unfold ev bg; rw [hbg2]
                have hn2 := ab_num HAB.out hbl
                rw [show (bg bs b).2.2.2 = s2 from hev2] at hn2
                have m0 := (own_kept0 HM.out.nr HG.out).cellAt b (by omega)
                rw [lst_get _ _ _ hbl] at m0
                unfold nv at m0
                obtain ⟨y0, y1⟩ := HM.out.pi.com b hbl
                have hY : com bs nx b = nx b * s2 := by unfold planP.com; rw [hev2]
                have HBS0 := Lib.hid (show b' = if X ≤ ck ∧ X + s < nx b * s2 + s2 then some k else some b by rw [HBST.out, hb, HX.out]; show (if X ≤ ck ∧ X + s < com bs nx b + ev bs b then some k else some b) = _; rw [hY, hev2])
                rw [hY] at y0 y1
                clear hV HBST hb HB hev2 hbg2 e2 hY
                generalize hY : (nx b : Int) * s2 = Y at *
                have w3 : IntKind.i64.wrap Y = Y := by rw [IntKind.wrap_i64]; omega
                have w4 : IntKind.i64.wrap (Y + s2) = Y + s2 := by rw [IntKind.wrap_i64]; omega
                have b0 : ¬ (b : Int) < 0 := by omega
                have b1 : (0 : Int) ≤ (b : Int) := by omega
                have b2 : (b : Int) < (bs.length : Int) := by omega
                have b3 : decide ((b : Int) < 0) = false := decide_eq_false b0
                by_cases hy : X + s < Y + s2
                · have y2 : decide (X + s < Y + s2) = true := decide_eq_true hy
                  have HBS := Lib.hid (show b' = some k by rw [HBS0.out]; exact if_pos ⟨hc, hy⟩)
                  clear HBS0
                  go_wp2_with fail
                  go_quiet (fail)
                  go_wp2_with fail
                  go_quiet (fail)
                  go_wp2_with fail
                  have g := HG.out
                  go_roundw
                  case rel => exact ⟨k + 1, by omega, by go_num, by rw [HE.out.2, HBS.out]; rfl, by rw [HE.out.1, HSO.out], ⟨g.os, g.tape, g.output, g.size, g.block⟩⟩
                  case measure => simp [intOf]; omega
                · have y2 : decide (X + s < Y + s2) = false := decide_eq_false hy
                  have HBS := Lib.hid (show b' = some b by rw [HBS0.out]; exact if_neg (fun h => hy h.2))
                  clear HBS0
                  go_wp2_with fail
                  go_quiet (fail)
                  go_wp2_with fail
                  go_quiet (fail)
                  go_wp2_with fail
                  have g := HG.out
                  go_roundw
                  case rel => exact ⟨k + 1, by omega, by go_num, by rw [HE.out.2, HBS.out]; rfl, by rw [HE.out.1, HSO.out], ⟨g.os, g.tape, g.output, g.size, g.block⟩⟩
                  case measure => simp [intOf]; omega
            · have c1 : decide (X ≤ ck) = false := decide_eq_false hc
              have HBS := Lib.hid (show b' = bst bs nx ck k from by
                rw [HBST.out, HX.out]
                cases bst bs nx ck k with
                | none => exact if_neg hc
                | some b => exact if_neg (fun h => hc h.1))
              have HVV := Lib.hid hV
              clear hV HBST HB
              go_wp2_with fail
              go_quiet (fail)
              go_wp2_with fail
              go_quiet (fail)
              go_wp2_with fail
              have g := HG.out
              go_roundw
              case rel => exact ⟨k + 1, by omega, by go_num, by rw [HE.out.2, HBS.out, HVV.out], by rw [HE.out.1, HSO.out], ⟨g.os, g.tape, g.output, g.size, g.block⟩⟩
              case measure => simp [intOf]; omega
          · obtain ⟨a1, a4, a2⟩ := HA.out
            have a3 : decide (S < 0) = false := decide_eq_false a1
            have a5 : decide (X < S) = false := decide_eq_false a4
            have HSO := Lib.hid a2
            clear a2 HA
            generalize hV : bv (bst bs nx ck k) = V at *
            by_cases hc : X ≤ ck
            · have c1 : decide (X ≤ ck) = true := decide_eq_true hc
              cases hb : bst bs nx ck k with
              | none =>
                obtain rfl : V = .int .i64 (-1) := by rw [← hV, hb]; rfl
                have HBS := Lib.hid (show b' = some k by rw [HBST.out, hb, HX.out]; exact if_pos hc)
                clear hV HBST hb HB
                go_wp2_with fail
                go_quiet (fail)
                go_wp2_with fail
                go_quiet (fail)
                go_wp2_with fail
                have g := HG.out
                go_roundw
                case rel => exact ⟨k + 1, by omega, by go_num, by rw [HE.out.2, HBS.out]; rfl, by rw [HE.out.1, HSO.out], ⟨g.os, g.tape, g.output, g.size, g.block⟩⟩
                case measure => simp [intOf]; omega
              | some b =>
                obtain rfl : V = .int .i64 (b : Int) := by rw [← hV, hb]; rfl
                have hbk := HB.out b hb
                have hbl : b < bs.length := by omega
                obtain ⟨ad2, u2, v2, d2, s2, e2, _, hbg2, _, _, _, hd3⟩ := Rd.four (HR.out.kept0 (HM.out.gb.trans HG.out) hB) hbl
                obtain rfl : ad = ad2 := by injection e2
                have hev2 : ev bs b = s2 := by unfold ev bg; rw [hbg2]
                have hn2 := ab_num HAB.out hbl
                rw [show (bg bs b).2.2.2 = s2 from hev2] at hn2
                have m0 := (own_kept0 HM.out.nr HG.out).cellAt b (by omega)
                rw [lst_get _ _ _ hbl] at m0
                unfold nv at m0
                obtain ⟨y0, y1⟩ := HM.out.pi.com b hbl
                have hY : com bs nx b = nx b * s2 := by unfold planP.com; rw [hev2]
                have HBS0 := Lib.hid (show b' = if X ≤ ck ∧ X + s < nx b * s2 + s2 then some k else some b by rw [HBST.out, hb, HX.out]; show (if X ≤ ck ∧ X + s < com bs nx b + ev bs b then some k else some b) = _; rw [hY, hev2])
                rw [hY] at y0 y1
                clear hV HBST hb HB hev2 hbg2 e2 hY
                generalize hY : (nx b : Int) * s2 = Y at *
                have w3 : IntKind.i64.wrap Y = Y := by rw [IntKind.wrap_i64]; omega
                have w4 : IntKind.i64.wrap (Y + s2) = Y + s2 := by rw [IntKind.wrap_i64]; omega
                have b0 : ¬ (b : Int) < 0 := by omega
                have b1 : (0 : Int) ≤ (b : Int) := by omega
                have b2 : (b : Int) < (bs.length : Int) := by omega
                have b3 : decide ((b : Int) < 0) = false := decide_eq_false b0
                by_cases hy : X + s < Y + s2
                · have y2 : decide (X + s < Y + s2) = true := decide_eq_true hy
                  have HBS := Lib.hid (show b' = some k by rw [HBS0.out]; exact if_pos ⟨hc, hy⟩)
                  clear HBS0
                  go_wp2_with fail
                  go_quiet (fail)
                  go_wp2_with fail
                  go_quiet (fail)
                  go_wp2_with fail
                  have g := HG.out
                  go_roundw
                  case rel => exact ⟨k + 1, by omega, by go_num, by rw [HE.out.2, HBS.out]; rfl, by rw [HE.out.1, HSO.out], ⟨g.os, g.tape, g.output, g.size, g.block⟩⟩
                  case measure => simp [intOf]; omega
                · have y2 : decide (X + s < Y + s2) = false := decide_eq_false hy
                  have HBS := Lib.hid (show b' = some b by rw [HBS0.out]; exact if_neg (fun h => hy h.2))
                  clear HBS0
                  go_wp2_with fail
                  go_quiet (fail)
                  go_wp2_with fail
                  go_quiet (fail)
                  go_wp2_with fail
                  have g := HG.out
                  go_roundw
                  case rel => exact ⟨k + 1, by omega, by go_num, by rw [HE.out.2, HBS.out]; rfl, by rw [HE.out.1, HSO.out], ⟨g.os, g.tape, g.output, g.size, g.block⟩⟩
                  case measure => simp [intOf]; omega
            · have c1 : decide (X ≤ ck) = false := decide_eq_false hc
              have HBS := Lib.hid (show b' = bst bs nx ck k from by
                rw [HBST.out, HX.out]
                cases bst bs nx ck k with
                | none => exact if_neg hc
                | some b => exact if_neg (fun h => hc h.1))
              have HVV := Lib.hid hV
              clear hV HBST HB
              go_wp2_with fail
              go_quiet (fail)
              go_wp2_with fail
              go_quiet (fail)
              go_wp2_with fail
              have g := HG.out
              go_roundw
              case rel => exact ⟨k + 1, by omega, by go_num, by rw [HE.out.2, HBS.out, HVV.out], by rw [HE.out.1, HSO.out], ⟨g.os, g.tape, g.output, g.size, g.block⟩⟩
              case measure => simp [intOf]; omega
        · obtain rfl : k = bs.length := by omega
          have HG := Lib.hid hg
          have HS := Lib.hid (show ∀ q, bst bs nx ck bs.length = q → bst bs nx ck bs.length = q from fun _ e => e)
          generalize hV : bv (bst bs nx ck bs.length) = V at *
          clear hg HS
          cases hb : bst bs nx ck bs.length with
          | none =>
            obtain rfl : V = .int .i64 (-1) := by rw [← hV, hb]; rfl
            have hlt2 : ck < soon bs nx bs.length := by
              obtain ⟨_, j, hj, e⟩ := soon_le bs nx bs.length (by omega)
              have := bst_none hb j hj
              omega
            have hf := far_wait out hlt2 HM.out.pi.ck1
            have HN := Lib.hid (show MS bs un R w (w.heap.size + 1) wr out O d (soon bs nx bs.length) nx from
              ⟨HM.out.pi.wait (by omega), HM.out.tell.wait hb, own_kept0 HM.out.row HG.out, own_kept0 HM.out.nr HG.out, HM.out.ne, HM.out.gb.trans HG.out⟩)
            have HF := Lib.hid hf
            clear hV hb hlt2 hf
            generalize soon bs nx bs.length = S at *
            go_wp2_with fail
            go_roundw
            case rel => exact ⟨out, O, d, S, nx, rfl, rfl, HN.out⟩
            case measure =>
              show far S out < far ck out
              have := HF.out
              omega
          | some b =>
            obtain rfl : V = .int .i64 (b : Int) := by rw [← hV, hb]; rfl
            have hbl := (bst_some hb).1
            have HMW := Lib.hid (HM.out.keep HG.out)
            have HB := Lib.hid hb
            obtain ⟨t1, t2⟩ := HM.out.pi.atT HAB.out hbl
            have hck0 := HM.out.pi.ck0
            have hck1 := HM.out.pi.ck1
            have b0 : ¬ (b : Int) < 0 := by omega
            have b3 : decide ((b : Int) < 0) = false := decide_eq_false b0
            have bb1 : (0 : Int) ≤ (b : Int) := by omega
            have bb2 : (b : Int) < (bs.length : Int) := by omega
            clear hV hb
            generalize soon bs nx bs.length = S at *
            go_upto_if 84 with fail
            go_cut [12] (fun t wx => t = .int .i64 (planP.atT bs ck out b) ∧ wr.grownBy wx none)
            case first =>
              by_cases ho : out = []
              · have HEA := Lib.hid (show planP.atT bs ck out b = ck from if_pos ho)
                have e0 : out.length = 0 := by rw [ho]; rfl
                have i1 : decide (0 < out.length) = false := decide_eq_false (by omega)
                have i2 : ¬ 0 < out.length := by omega
                clear ho e0 t1 t2
                go_wp2_with fail
                go_meet
                exact ⟨by rw [HEA.out], World.grownBy.refl _ _⟩
              · obtain ⟨j, t, esg, hjl, ht, el⟩ := HM.out.pi.lastB ho
                have ea : planP.atT bs ck out b = ck + tu bs (planP.lastB out) b := if_neg ho
                rw [el] at ea
                obtain ⟨m, em⟩ : ∃ m, out.length = m + 1 := ⟨out.length - 1, by have := List.length_pos_iff.2 ho; omega⟩
                rw [show out.length - 1 = m by omega] at esg
                obtain ⟨ad2, x, y, rfl, _, exy, s0, _⟩ := Rd.slot (Rd.of_lst HMW.out.row rfl) (show m < out.length by omega)
                rw [esg] at exy
                obtain ⟨rfl, rfl⟩ : (j : Int) = x ∧ (t : Int) = y := by injection exy with a b; exact ⟨a, b⟩
                obtain ⟨ad, u, v, dd, s, rfl, _, hx, cc0, cc1, _, _⟩ := Rd.four (HR.out.kept0 HMW.out.gb hB) hjl
                obtain ⟨ad3, u', v', dd', s', e3, _, hx', dc0, dc1, _, _⟩ := Rd.four (HR.out.kept0 HMW.out.gb hB) hbl
                obtain rfl : ad = ad3 := by injection e3
                have hbd := ab_bd HAB.out hjl
                have hbd' := ab_bd HAB.out hbl
                rw [show bg bs j = _ from hx] at hbd
                rw [show bg bs b = _ from hx'] at hbd'
                have hsb := sw_bd hbd hbd'
                have HSW := Lib.hid (fun w => sw_spec u v u' v' w hbd hbd')
                have etu : tu bs j b = sw u v u' v' := by unfold tu; rw [show bg bs j = _ from hx, show bg bs b = _ from hx']
                rw [etu] at ea
                dsimp only at hsb HSW
                generalize sw u v u' v' = TU at *
                have HEA := Lib.hid ea
                have i1 : decide (0 < out.length) = true := decide_eq_true (by omega)
                have i2 : 0 < out.length := by omega
                have z0 : (0 : Int) < (out.length : Int) := by omega
                have z1 : (0 : Int) ≤ (m : Int) := by omega
                have z2 : (m : Int) < (out.length : Int) := by omega
                have z3 : IntKind.i64.wrap ((out.length : Int) - 1) = (m : Int) := by rw [IntKind.wrap_i64]; omega
                have z4 : IntKind.i64.wrap (ck + TU) = ck + TU := by rw [IntKind.wrap_i64]; omega
                have z5 : IntKind.i64.wrap (m : Int) = (m : Int) := by rw [IntKind.wrap_i64]; omega
                have y0 : (0 : Int) ≤ (j : Int) := by omega
                have y1 : (j : Int) < (bs.length : Int) := by omega
                clear ho t1 t2 em el esg exy etu ea hx hx' e3 hbd hbd'
                go_wp2_with fail
                go_region_held3 (fun w' => w'.cell? (ad2.add (m * 2)) = some (.int .i64 (j : Int)) ∧ w'.cell? (ad.add (j * 4)) = some (.int .i64 u) ∧ w'.cell? ⟨(ad.add (j * 4)).block, (ad.add (j * 4)).off + 1, none⟩ = some (.int .i64 v) ∧ w'.cell? (ad.add (b * 4)) = some (.int .i64 u') ∧ w'.cell? ⟨(ad.add (b * 4)).block, (ad.add (b * 4)).off + 1, none⟩ = some (.int .i64 v'))
                  (first
                    | exact ⟨hg.cell s0 (by simp), hg.cell cc0 (by simp), hg.cell cc1 (by simp), hg.cell dc0 (by simp), hg.cell dc1 (by simp)⟩
                    | exact ⟨s0, cc0, cc1, dc0, dc1⟩)
                  ((go_at_call 161; refine (HSW.out _).mono ?_; rintro e w6 ⟨rfl, hg⟩; have gT : wr.grownBy w6 none := (by refine World.grownBy.trans ?_ hg; exact gb_drewN wr 1 none)))
                all_goals
                  go_wp2_with fail
                  go_meet
                  exact ⟨by rw [HEA.out], gT⟩
            case rest =>
              obtain ⟨rfl, hg2⟩ := hcut
              obtain ⟨T, hT⟩ : ∃ T, T = planP.atT bs ck out b := ⟨_, rfl⟩
              rw [← hT] at t1 t2
              have HT0 := Lib.hid hT
              rw [← hT]
              clear hT
              have HMC := Lib.hid (HMW.out.keep hg2)
              clear hg2
              by_cases hu2 : un ≤ T
              · have HEQ := Lib.hid (HM.out.tell.end_ HB.out (.inl (by rw [← HT0.out]; exact hu2)))
                go_wp2_with fail
                go_ret
                rw [HEQ.out]
                exact ⟨O, d, rfl, HMC.out.row, HMC.out.gb⟩
              · obtain ⟨out2, ho2⟩ : ∃ o, o = out ++ [((b : Int), T)] := ⟨_, rfl⟩
                obtain ⟨O', d', w6, hrun, c6, f6, g6, hms⟩ := HMC.out.app hl (by omega) hbl ho2
                have hnx := HM.out.pi.next HAB.out HB.out hu.2 (by rw [← HT0.out]; exact hu2) (by omega)
                have htl := HM.out.tell.next HB.out (by rw [← HT0.out]; exact hu2) (by omega)
                rw [← HT0.out, ← ho2] at hnx htl
                have HN := Lib.hid (hms hnx htl)
                obtain ⟨n0, n1⟩ := HM.out.pi.com b hbl
                have hn := ab_num HAB.out hbl
                have hnb : (nx b : Int) ≤ 20000 := by
                  have h1 : (1 : Int) ≤ ev bs b := Int.le_trans hn.1 hn.2.2.1
                  have h2 : (nx b : Int) * 1 ≤ nx b * ev bs b := Int.mul_le_mul_of_nonneg_left h1 (by omega)
                  unfold planP.com at n1
                  omega
                obtain ⟨ad, u, v, dd, s, rfl, _, hx, _, _, dc2, _⟩ := Rd.four (HR.out.kept0 HN.out.gb hB) hbl
                have hdw : dw bs b = dd := by unfold dw; rw [show bg bs b = _ from hx]
                have hd1 : 1 ≤ dd ∧ dd ≤ 10000 := by rw [show (bg bs b).2.2.1 = dd from hdw] at hn; omega
                have HD2 := Lib.hid dc2
                have HFN := Lib.hid (far_next (ck := ck) (ck' := T + dd) (out := out) ((b : Int), T) hl (by omega))
                have w1 : IntKind.i64.wrap ((nx b : Int) + 1) = (nx b : Int) + 1 := by rw [IntKind.wrap_i64]; omega
                have w2 : IntKind.i64.wrap (T + dd) = T + dd := by rw [IntKind.wrap_i64]; omega
                have HO2 := Lib.hid ho2
                rw [hdw] at HN
                clear hms hnx htl dc2 hx hdw hn n0 n1 hnb ho2 g6
                go_upto_region 24 with fail
                generalize (w6.setCell ⟨w.heap.size + 1, b, none⟩ (.int .i64 ((nx b : Int) + 1))) = w7 at *
                have dc2 := HD2.out
                go_wp2_with fail
                exact ⟨⟨out2, O', d', T + dd, upd nx b, rfl, rfl, HN.out⟩, by
                  show far (T + dd) out2 < far ck out
                  have := HFN.out
                  rw [← HO2.out] at this
                  omega⟩
    · have HF := Lib.hid (HM.out.tell.full (by omega)).1
      go_wp2_with fail
      go_ret
      rw [HF.out]
      exact ⟨O, d, rfl, HM.out.row, HM.out.gb⟩
set_option maxHeartbeats 800000 in
set_option maxRecDepth 100000 in
theorem plan_spec (A : Option Addr) (c B : Nat) (bs : List Bm) (un : Int) (w : World) (hm : bs.length ≤ 9223372036854775807) (hr : Rd w B A (bs.length * 4) (bcell bs)) (hB : B ≤ w.heap.size) :
    Calls Try.prog 51 #[.slice A bs.length c, .int .i64 un] w fun e w' => ∃ O d, e = .returned (.tuple #[.slice O (PB bs un).length d, .bool (pok bs un)]) ∧ w'.ownsRow w.heap.size 71 2 (.slice O (PB bs un).length d) (PB bs un).length (lst (pcell (PB bs un)) ((PB bs un).length * 2)) ∧ w.grownBy w' none := by
  have HA0 := are_spec A c B bs w hm hr hB
  cases ha : ab bs
  · obtain ⟨e1, e2⟩ := PB_no (un := un) (.inl ha)
    rw [e1, e2]
    rw [ha] at HA0
    have HA := Lib.hid HA0
    clear HA0 hr ha e1 e2
    go_enter Try.func51, Try.ntmps51
    go_wp2_with fail
    refine HA.out.mono ?_
    rintro e w1 ⟨rfl, g1⟩
    go_wp2_with fail
    exact bodyPost_ret (v := .tuple #[.slice none 0 0, .bool false]) (by simp [results, Try.results51, go_sem]) rfl ⟨none, 0, rfl, World.ownsRow_nil _ _ _ _, g1⟩
  · rw [ha] at HA0
    have HA := Lib.hid HA0
    by_cases hu : 0 ≤ un ∧ un ≤ 10000
    · have HP := Lib.hid (fun (w1 : World) (hg : w.grownBy w1 none) => plan_m A c B bs un (PB bs un) w1 ha hu (PB_yes ha hu) (hr.kept0 hg hB) (Nat.le_trans hB hg.size))
      rw [pok_yes ha hu]
      generalize PB bs un = R at *
      clear HA0 hr ha
      go_enter Try.func51, Try.ntmps51
      go_wp2_with fail
      refine HA.out.mono ?_
      rintro e w1 ⟨rfl, g1⟩
      go_wp2_with fail
      refine (in_yes _ _ _ _ hu.1 hu.2).mono ?_
      rintro e w' ⟨rfl, rfl⟩
      go_wp2_with fail
      refine (HP.out w1 g1).mono ?_
      rintro e w2 ⟨O, d, rfl, row, g2⟩
      have HF := Lib.hid (And.intro (row_base row g1.size) (g1.trans g2))
      clear row g1 g2
      go_wp2_with fail
      exact bodyPost_ret (v := .tuple #[.slice O R.length d, .bool true]) (by simp [results, Try.results51, go_sem]) rfl ⟨O, d, rfl, HF.out.1, HF.out.2⟩
    · obtain ⟨e1, e2⟩ := PB_no (bs := bs) (un := un) (.inr hu)
      rw [e1, e2]
      have hu2 : un < 0 ∨ 10000 < un := by omega
      clear HA0 hr ha e1 e2 hu
      go_enter Try.func51, Try.ntmps51
      go_wp2_with fail
      refine HA.out.mono ?_
      rintro e w1 ⟨rfl, g1⟩
      go_wp2_with fail
      refine (in_no _ _ _ _ hu2).mono ?_
      rintro e w' ⟨rfl, rfl⟩
      go_wp2_with fail
      exact bodyPost_ret (v := .tuple #[.slice none 0 0, .bool false]) (by simp [results, Try.results51, go_sem]) rfl ⟨none, 0, rfl, World.ownsRow_nil _ _ _ _, g1⟩

end Go.Proofs.Ytmemclcoegmjjaa.planM
