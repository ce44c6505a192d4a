/- The search that looks ahead, by the program: a closure that calls itself. -/
import Derived.Test.YtpmjheofjmdfeaaRows
import Derived.Test.YtpmjheofjmdfeaaSlc
import Derived.Test.YtpmjheofjmdfeaaSmall
import Derived.Test.YtpmjheofjmdfeaaListI
import Derived.Test.YtpmjheofjmdfeaaSearch
import Derived.WalkKit
import Derived.ProofKit
import Derived.OpenShut
import Derived.ShutString
import Derived.ChangeOld
import Derived.Below
import Derived.Lib.Hide
import Derived.BigQuiet
import Derived.Deep.QuietTactic
import Derived.WalkLawsBesides
import Derived.Outline
import Derived.RangeFuncBox
import Derived.Deep.QuietTactic
import Derived.BigQuiet
import Derived.Deep.LoopGhost
import Derived.Deep.RegionWith
namespace Go.Proofs.Ytpmjheofjmdfeaa.ext
open Go.ChangeShapes Go.WideShapes Go.ChangeAt Go.RowKit
open Go.ChangeMaps (open_string shut_string)
set_option linter.unusedVariables false
open Go Go.RowKit
open Go.Proofs.Ytpmjheofjmdfeaa.slc Go.Proofs.Ytpmjheofjmdfeaa.small Go.Proofs.Ytpmjheofjmdfeaa.listI Go.Proofs.Ytpmjheofjmdfeaa.search

theorem run_store_slice {P : Program} {w : World} {m : Mode} (a : Addr) (A : Option Addr) (n c : Nat) : (store a (.slice A n c) m).run P w = stored P w a (.slice A n c) m := run_store P w a _ m rfl
theorem run_store_func {P : Program} {w : World} {md : Mode} (a : Addr) (f : Fn) (x : Array Value) (y : Array Value) : (store a (.func f x y) md).run P w = stored P w a (.func f x y) md := run_store P w a _ md rfl
attribute [local go_sem] run_store_func run_store_slice
theorem info64 : (Try.prog.info? 2).map (fun i => (i.zero, i.size, i.bytes)) = some (some (.int .i64 0), 1, 8) := by kernel_rfl
/-- The closure, bound to its five boxes. -/
def exF (bw bm bc bl be : Nat) : Value := .func (.func 209) #[] #[.pointer (some ⟨bw, 0, none⟩), .pointer (some ⟨bm, 0, none⟩), .pointer (some ⟨bc, 0, none⟩), .pointer (some ⟨bl, 0, none⟩), .pointer (some ⟨be, 0, none⟩)]
/-- Marks in a box, in memory of the call's own. -/
def MkAt (W : World) (n1 bm : Nat) (ms : List Int) : Prop := ∃ v, Boxed W bm 24 v ∧ W.ownsRow n1 2 1 v ms.length (ints ms)
structure ExSt (W : World) (n1 bw bm bc bl be gw : Nat) (lw : Array Value) (cnt last : Int) (ms : List Int) : Prop where
  w : Boxed W bw 29 (.func (.func gw) #[] lw)
  m : MkAt W n1 bm ms
  c : Boxed W bc 3 (.int .i64 cnt)
  l : Boxed W bl 2 (.int .i64 last)
  e : Boxed W be 223 (exF bw bm bc bl be)
theorem boxed_below {W W' : World} {n b : Nat} {t : TypeId} {v : Value} (h : Boxed W b t v) (hb : Below n W W') (hn : b < n) : Boxed W' b t v := (hb.block b hn).trans h
/-- One mark less. -/
theorem row_cut {W : World} {b : Nat} {e : TypeId} {g c n : Nat} {xs : List Value} {x : Value} (h : W.ownsRow b e 1 (.slice (some ⟨g, 0, none⟩) (n + 1) c) (n + 1) (xs ++ [x])) (hn : xs.length = n) : W.ownsRow b e 1 (.slice (some ⟨g, 0, none⟩) n c) n xs := by
  rcases h.2 with ⟨h1, _⟩ | ⟨g', cap, cur, h1, h2, h3, h4, h5, h6, h7⟩
  · cases h1
  · injection h1 with h1 _ h8
    injection h1 with h1
    injection h1 with h1
    subst h1
    subst h8
    refine ⟨by rw [hn, Nat.mul_one], .inr ⟨g, c, cur, rfl, h2, h3, by omega, h5, h6, ?_⟩⟩
    have h9 := congrArg (List.take n) h7
    rw [List.take_take] at h9
    rw [← hn, List.take_left] at h9
    rw [← hn, Nat.mul_one]
    rw [show min xs.length ((xs.length + 1) * 1) = xs.length by omega] at h9
    exact h9
theorem be_at {wr w4 : World} {n1 bw bm bc bl be k : Nat} {v : Value} {xs : List Value} {o : Obj} (se : Boxed wr be 223 (exF bw bm bc bl be)) (hown : wr.ownsRow n1 2 1 v k xs) (hgrow : (wr.alloc o).grownBy w4 v.ownBlock) (hne : bm ≠ be) (u : Value) :
    Boxed (w4.setCell ⟨bm, 0, none⟩ u) be 223 (exF bw bm bc bl be) :=
  ((se.alloc o).kept hgrow (se.not_row (by decide) hown)).kept (grownBy_setCell' _ _ _) (by intro h; injection h with h; exact hne h.symm)
theorem ex_cell {W : World} {bw bm bc bl be : Nat} (h : Boxed W be 223 (exF bw bm bc bl be)) : W.cell? ⟨be, 0, none⟩ = some (.func (.func 209) #[] #[.pointer (some ⟨bw, 0, none⟩), .pointer (some ⟨bm, 0, none⟩), .pointer (some ⟨bc, 0, none⟩), .pointer (some ⟨bl, 0, none⟩), .pointer (some ⟨be, 0, none⟩)]) := h.cell
theorem ints_snoc (ms : List Int) (m : Int) : ints ms ++ [.int .i64 m] = ints (ms ++ [m]) := by simp [ints]
theorem end_cell {ms : List Int} (h : 1 ≤ ms.length) : (ints ms)[ms.length - 1]? = some (.int .i64 (endOf ms)) := by
  have h1 : ms.length - 1 < ms.length := by omega
  simp [ints, endOf, List.getD, List.getElem?_eq_getElem h1]
theorem own_cap {W : World} {b : Nat} {e : TypeId} {size : Nat} {A : Option Addr} {n c : Nat} {xs : List Value} (h : W.ownsRow b e size (.slice A n c) n xs) : n ≤ c ∧ c ≤ maxLen := by
  rcases h.2 with ⟨h1, h2⟩ | ⟨g, cap, cur, h1, _, _, h4, h5, _⟩
  · injection h1 with _ _ h3
    omega
  · injection h1 with _ _ h3
    omega
/-- What the search is asked to look at. -/
def Wanted (n0 : Nat) (w0 : World) (gw : Nat) (lw : Array Value) (last : Int) (wB : List Int → Bool) : Prop :=
  ∀ (ms : List Int) (A : Option Addr) (c B : Nat) (W : World), Below n0 w0 W → n0 ≤ W.heap.size → GoodM last ms → ms.length ≤ 16 → ms.length ≤ c → c ≤ maxLen → B ≤ W.heap.size → Rd W B A ms.length (fun j => (ints ms).getD j undef) →
    Calls Try.prog gw (#[.slice A ms.length c] ++ lw) W fun e W' => e = .returned (.bool (wB ms)) ∧ W.grownBy W' none

set_option maxRecDepth 100000 in
set_option maxHeartbeats 4000000 in
theorem ext_c (n0 n1 bw bm bc bl be gw : Nat) (lw : Array Value) (w0 : World) (cnt : Nat) (last : Int) (wB : List Int → Bool) (hlast : 0 ≤ last ∧ last ≤ 1000) (hcnt : cnt ≤ 16) (hw : Wanted n0 w0 gw lw last wB) (eg : ∀ args w, (callFunc gw args).run Try.prog w = .ok (.enter gw args) w)
    (h01 : n0 ≤ n1) (hbw : bw < n1) (hbc : bc < n1) (hbl : bl < n1) (hbm : n1 ≤ bm) (hbe : n1 ≤ be) (hme : bm ≠ be) :
    ∀ (left : Nat) (ms : List Int) (W : World), ms.length + left = cnt → GoodM last ms → ExSt W n1 bw bm bc bl be gw lw (cnt : Int) last ms → n1 ≤ W.heap.size → Below n0 w0 W →
      Calls Try.prog 209 #[.pointer (some ⟨bw, 0, none⟩), .pointer (some ⟨bm, 0, none⟩), .pointer (some ⟨bc, 0, none⟩), .pointer (some ⟨bl, 0, none⟩), .pointer (some ⟨be, 0, none⟩)] W fun e W' =>
        e = .returned (.bool (di wB last left ms).isSome) ∧ ExSt W' n1 bw bm bc bl be gw lw (cnt : Int) last ((di wB last left ms).getD ms) ∧ Below n1 W W' := by
  intro left
  induction left with
  | zero =>
    intro ms W hlen hg hst hn1 hb0
    obtain ⟨sw, ⟨v, sm, so⟩, sc, sl, se⟩ := hst
    obtain ⟨A, c, rfl⟩ := own_form so
    have cw := sw.cell
    have cm := sm.cell
    have cc := sc.cell
    have cl := sl.cell
    have R := Rd.of_own so (Nat.mul_one _).symm
    have g1 := hg.1
    have hl16 : ms.length ≤ 16 := by omega
    have HW := Lib.hid (hw ms A c W.heap.size W hb0 (Nat.le_trans h01 hn1) hg hl16 (own_cap so).1 (own_cap so).2 (Nat.le_refl _) R)
    have HST := Lib.hid (And.intro sw (And.intro sm (And.intro so (And.intro sc (And.intro sl se)))))
    have hdi : di wB last 0 ms = if (wB ms && decide (endOf ms = last)) = true then some ms else none := rfl
    have hend := (hg.2.2 _ (end_mem g1))
    cases hwb : wB ms with
    | false =>
      rw [hwb] at HW hdi
      rw [Bool.false_and, if_neg (by simp)] at hdi
      rw [hdi]
      clear sw sm so sc sl se R hdi hw
      go_enter Try.func209, Try.ntmps209
      go_wp2_with fail
      refine HW.out.mono ?_
      rintro e W1 ⟨rfl, hgw⟩
      go_wp2_with fail
      go_ret
      obtain ⟨sw, sm, so, sc, sl, se⟩ := HST.out
      exact ⟨rfl, ⟨sw.kept hgw (by simp), ⟨_, sm.kept hgw (by simp), own_kept0 so hgw⟩, sc.kept hgw (by simp), sl.kept hgw (by simp), se.kept hgw (by simp)⟩, (gb_below hgw).mono hn1⟩
    | true =>
      rw [hwb] at HW hdi
      rw [Bool.true_and] at hdi
      have hr : (di wB last 0 ms).isSome = decide (endOf ms = last) ∧ (di wB last 0 ms).getD ms = ms := by
        rw [hdi]
        by_cases h : endOf ms = last
        · rw [if_pos (decide_eq_true h), decide_eq_true h]; exact ⟨rfl, rfl⟩
        · rw [if_neg (by simpa using h), decide_eq_false h]; exact ⟨rfl, rfl⟩
      rw [hr.1, hr.2]
      obtain ⟨ad, rfl, _, hce⟩ := R.at_ (show ms.length - 1 < ms.length by omega)
      have ec : (ints ms).getD (ms.length - 1) undef = .int .i64 (endOf ms) := by simp [List.getD, end_cell g1]
      rw [ec] at hce
      obtain ⟨n, hn⟩ : ∃ n, ms.length = n + 1 := ⟨ms.length - 1, by omega⟩
      rw [hn] at cm HW hce hl16 hlen
      rw [Nat.add_sub_cancel] at hce
      have HN := Lib.hid hn
      have e1 : (cnt : Int) - ((n : Int) + 1) = 0 := by omega
      clear hn sw sm so sc sl se R hdi hw hwb ec hr hlen
      generalize endOf ms = E at *
      go_enter Try.func209, Try.ntmps209
      go_wp2_with fail
      refine HW.out.mono ?_
      rintro e W1 ⟨rfl, hgw⟩
      obtain ⟨sw, sm, so, sc, sl, se⟩ := HST.out
      have cm1 := hgw.cell cm (by simp)
      have cc1 := hgw.cell cc (by simp)
      have cl1 := hgw.cell cl (by simp)
      have ce1 := hgw.cell hce (by simp)
      have HS1 := Lib.hid (show ExSt W1 n1 bw bm bc bl be gw lw (cnt : Int) last ms from ⟨sw.kept hgw (by simp), ⟨_, sm.kept hgw (by simp), own_kept0 so hgw⟩, sc.kept hgw (by simp), sl.kept hgw (by simp), se.kept hgw (by simp)⟩)
      have HB1 := Lib.hid ((gb_below hgw).mono hn1)
      clear sw sm so sc sl se HST HW cw cm cc cl hce hgw
      have e3 : IntKind.i64.wrap (n : Int) = (n : Int) := by rw [IntKind.wrap_i64]; omega
      have e4 : (0 : Int) ≤ (n : Int) := by omega
      have e5 : (n : Int) < (n : Int) + 1 := by omega
      go_wp2_with fail
      go_quiet (fail)
      have HST3 := Lib.hid (And.intro HS1.out HB1.out)
      go_wp2_with fail
      go_ret
      have gd := gb_drewN W1 nq none
      obtain ⟨⟨sw, ⟨v, sm, so⟩, sc, sl, se⟩, hbb⟩ := HST3.out
      exact ⟨by first | rfl | simp, ⟨sw.kept gd (by simp), ⟨v, sm.kept gd (by simp), own_kept0 so gd⟩, sc.kept gd (by simp), sl.kept gd (by simp), se.kept gd (by simp)⟩, hbb.trans ((gb_below gd).mono (by have := hbb.size; omega))⟩
  | succ left ih =>
    intro ms W hlen hg hst hn1 hb0
    obtain ⟨sw, ⟨v, sm, so⟩, sc, sl, se⟩ := hst
    obtain ⟨A, c, rfl⟩ := own_form so
    have cw := sw.cell
    have cm := sm.cell
    have cc := sc.cell
    have cl := sl.cell
    have ce := se.cell
    have R := Rd.of_own so (Nat.mul_one _).symm
    have g1 := hg.1
    have hl16 : ms.length ≤ 16 := by omega
    have HW := Lib.hid (hw ms A c W.heap.size W hb0 (Nat.le_trans h01 hn1) hg hl16 (own_cap so).1 (own_cap so).2 (Nat.le_refl _) R)
    have hend := (hg.2.2 _ (end_mem g1))
    cases hwb : wB ms with
    | false =>
      rw [hwb] at HW
      have hdi : di wB last (left + 1) ms = none := by show (if wB ms = true then _ else none) = none; rw [hwb]; rfl
      rw [hdi]
      have HST := Lib.hid (And.intro sw (And.intro sm (And.intro so (And.intro sc (And.intro sl se)))))
      clear sw sm so sc sl se R hdi hw ih
      go_enter Try.func209, Try.ntmps209
      go_wp2_with fail
      refine HW.out.mono ?_
      rintro e W1 ⟨rfl, hgw⟩
      go_wp2_with fail
      go_ret
      obtain ⟨sw, sm, so, sc, sl, se⟩ := HST.out
      exact ⟨rfl, ⟨sw.kept hgw (by simp), ⟨_, sm.kept hgw (by simp), own_kept0 so hgw⟩, sc.kept hgw (by simp), sl.kept hgw (by simp), se.kept hgw (by simp)⟩, (gb_below hgw).mono hn1⟩
    | true =>
      rw [hwb] at HW
      obtain ⟨f, hf⟩ : ∃ f : Int → Option (List Int), f = fun m => di wB last left (ms ++ [m]) := ⟨_, rfl⟩
      obtain ⟨K, hK⟩ : ∃ K : Nat, K = (last - left - endOf ms).toNat := ⟨_, rfl⟩
      have hdi : di wB last (left + 1) ms = tryL f K (endOf ms + 1) := by
        rw [hf, hK]
        show (if wB ms = true then _ else none) = _
        rw [hwb, if_pos rfl]
      rw [hdi]
      obtain ⟨ad, rfl, _, hce⟩ := R.at_ (show ms.length - 1 < ms.length by omega)
      have ec : (ints ms).getD (ms.length - 1) undef = .int .i64 (endOf ms) := by simp [List.getD, end_cell g1]
      rw [ec] at hce
      have HF := Lib.hid hf
      have HKK := Lib.hid hK
      obtain ⟨n, hn⟩ : ∃ n, ms.length = n + 1 := ⟨ms.length - 1, by omega⟩
      rw [hn] at cm so sm HW hce hl16 hlen
      rw [Nat.add_sub_cancel] at hce
      have HN := Lib.hid hn
      clear hn
      have HST := Lib.hid (And.intro sw (And.intro sm (And.intro so (And.intro sc (And.intro sl se)))))
      have HIH := Lib.hid ih
      clear hdi hf hK hw ih R sw sm so sc sl se hwb ec
      have q1 : (n : Int) < ((n + 1 : Nat) : Int) := by omega
      have HGM := Lib.hid hg
      have HL := Lib.hid hlen
      generalize hE : endOf ms = E at *
      have HE := Lib.hid hE
      clear hE
      go_enter Try.func209, Try.ntmps209
      go_wp2_with fail
      refine HW.out.mono ?_
      rintro e W1 ⟨rfl, hgw⟩
      obtain ⟨sw, sm, so, sc, sl, se⟩ := HST.out
      have sw1 := sw.kept hgw (by simp)
      have sm1 := sm.kept hgw (by simp)
      have so1 := own_kept0 so hgw
      have sc1 := sc.kept hgw (by simp)
      have sl1 := sl.kept hgw (by simp)
      have se1 := se.kept hgw (by simp)
      have cm1 := sm1.cell
      have cc1 := sc1.cell
      have cl1 := sl1.cell
      have ce1 := hgw.cell hce (by simp)
      have HS1 := Lib.hid (And.intro sw1 (And.intro sm1 (And.intro so1 (And.intro sc1 (And.intro sl1 se1)))))
      clear sw sm so sc sl se sw1 sm1 so1 sc1 sl1 se1 HST HW cw cm cc cl ce hce
      have e1 : (cnt : Int) - ((n : Int) + 1) = (left : Int) + 1 := by omega
      have e2 : IntKind.i64.wrap ((left : Int) + 1) = (left : Int) + 1 := by rw [IntKind.wrap_i64]; omega
      have e3 : IntKind.i64.wrap (n : Int) = (n : Int) := by rw [IntKind.wrap_i64]; omega
      have e4 : (0 : Int) ≤ (n : Int) := by omega
      have e5 : (n : Int) < (n : Int) + 1 := by omega
      have e6 : ((left : Int) + 1 == 0) = false := by simp; omega
      go_wp2_with fail
      go_quiet (fail)
      have h2 := hgw.trans (gb_drewN W1 nq none)
      obtain ⟨sw1, sm1, so1, sc1, sl1, se1⟩ := HS1.out
      have gd := gb_drewN W1 nq none
      have hst2 : ExSt (W1.drewN nq) n1 bw bm bc bl be gw lw (cnt : Int) last ms := ⟨sw1.kept gd (by simp), ⟨_, sm1.kept gd (by simp), by rw [HN.out]; exact own_kept0 so1 gd⟩, sc1.kept gd (by simp), sl1.kept gd (by simp), se1.kept gd (by simp)⟩
      have hb2 := (gb_below h2).mono hn1
      have hs2 := Nat.le_trans hn1 h2.size
      have HST2 := Lib.hid (And.intro hst2 (And.intro hb2 hs2))
      clear HS1 sw1 sm1 so1 sc1 sl1 se1 gd hst2 hb2 hs2 h2 hgw cm1 cc1 cl1 ce1 e3 e4 e5 e1
      have hKE : ∀ j : Nat, j < K ↔ E + 1 + (j : Int) ≤ last - (left : Int) := fun j => by rw [HKK.out]; omega
      generalize W1.drewN nq = W2 at *
      obtain ⟨i0, hi0, hz0, hz1, hz2⟩ := info_parts info64
      go_wp2_with fail
      go_loopw [8] (fun nx wr => ∃ j : Nat, j ≤ K ∧ nx = .int .i64 (E + 1 + (j : Int)) ∧ tryL f K (E + 1) = tryL f (K - j) (E + 1 + (j : Int)) ∧ ExSt wr n1 bw bm bc bl be gw lw (cnt : Int) last ms ∧ Below n1 W wr ∧ n1 ≤ wr.heap.size) (fun nx _ => (3000 - intOf nx).toNat)
      case atStart => exact ⟨0, Nat.zero_le _, by simp, by simp, HST2.out⟩
      case round =>
        obtain ⟨j, hj, rfl, htr, hst, hbl2, hsz⟩ := hrel
        clear HST2
        obtain ⟨sw, ⟨v, sm, so⟩, sc, sl, se⟩ := hst
        obtain ⟨A, c, rfl⟩ := own_form so
        have cl := sl.cell
        have hjk := hKE j
        by_cases hlt : j < K
        · have hle := hjk.1 hlt
          have hm1 : E < E + 1 + (j : Int) := by omega
          have hm2 : E + 1 + (j : Int) ≤ last := by omega
          have hnx : tryL f (K - j) (E + 1 + (j : Int)) = match f (E + 1 + (j : Int)) with | some r => some r | none => tryL f (K - (j + 1)) (E + 1 + ((j + 1 : Nat) : Int)) := by
            rw [show K - j = (K - (j + 1)) + 1 by omega, show E + 1 + ((j + 1 : Nat) : Int) = E + 1 + (j : Int) + 1 by omega]
            rfl
          have hfm : f (E + 1 + (j : Int)) = di wB last left (ms ++ [E + 1 + (j : Int)]) := by rw [HF.out]
          rw [hfm] at hnx
          have HNX := Lib.hid (htr.trans hnx)
          have hgm := HGM.out.snoc (m := E + 1 + (j : Int)) (by rw [HE.out]; exact hm1) hm2
          have HGS := Lib.hid hgm
          have HJ := Lib.hid (show E + 1 + ((j + 1 : Nat) : Int) = E + 1 + (j : Int) + 1 by omega)
          clear htr hnx hfm hgm hjk hKE
          generalize hM : E + 1 + (j : Int) = m at *
          have hml : ms.length ≤ 16 := by rw [HN.out]; exact hl16
          have cm := sm.cell
          have HB := Lib.hid (And.intro sw (And.intro sc (And.intro sl (And.intro se hbl2))))
          have SM := Lib.hid sm
          have hown := so
          clear sw sc sl se hbl2 sm
          go_wp2_with (at_builtin; refine wpList_append_own _ rfl _ _ 24 rfl n1 2 i0 (.int .i64 0) 1 8 Try.underlying24 hi0 hz0 hz1 hz2 rfl (by decide) _ _ _ rfl (hown.alloc _) ⟨wr.heap.size, 0, none⟩ 1 1 [.int .i64 m] rfl rfl (cell_one_new _ _ _) (by simp [Value.oneCell']) (by unfold maxLen; omega) (by omega) (by simp; omega) ?_; intro v' w4 hown' hgrow _; obtain ⟨g', cap', rfl⟩ := ownsRow_succ hown'; obtain ⟨hv1, hv2, hr2, hk2, hb2⟩ := SM.out.appended (by decide) hown hsz hbm hown' hgrow; have hc1 := hv1.cell; have hf1 := hv1.frozen; have se4 := be_at HB.out.2.2.2.1 hown hgrow hme (.slice (some ⟨g', 0, none⟩) (ms.length + 1) cap'); have ce4 := ex_cell se4)
          obtain ⟨sw, sc, sl, se, hbl2⟩ := HB.out
          have hl5 : (ms ++ [m]).length = ms.length + 1 := by simp
          have hst5 : ExSt (w4.setCell ⟨bm, 0, none⟩ (.slice (some ⟨g', 0, none⟩) (ms.length + 1) cap')) n1 bw bm bc bl be gw lw (cnt : Int) last (ms ++ [m]) :=
            ⟨boxed_below sw hb2 hbw, ⟨_, hv2, by rw [hl5, ← ints_snoc]; exact hr2⟩, boxed_below sc hb2 hbc, boxed_below sl hb2 hbl, se4⟩
          have hb5 := hbl2.trans hb2
          have hs5 := Nat.le_trans hsz hb2.size
          have HCALL := Lib.hid (HIH.out (ms ++ [m]) _ (by have := HL.out; have := HN.out; omega) HGS.out hst5 hs5 (hb0.trans (hb5.mono h01)))
          generalize w4.setCell ⟨bm, 0, none⟩ (.slice (some ⟨g', 0, none⟩) (ms.length + 1) cap') = w5 at *
          have HB5 := Lib.hid (And.intro hb5 hs5)
          clear sw sc sl se hbl2 hst5 hb5 hs5 HB SM hown hown' hgrow hv1 hv2 hr2 hk2 hb2 hc1 hf1 se4 ce4 cm
          generalize hD : di wB last left (ms ++ [m]) = D at *
          clear hD
          cases D with
          | some r =>
            refine HCALL.out.mono ?_
            rintro e w6 ⟨rfl, hst6, hb6⟩
            have hR : tryL f K (E + 1) = some r := HNX.out
            have HR := Lib.hid hR
            have HF6 := Lib.hid (And.intro hst6 (HB5.out.1.trans hb6))
            clear hst6 hb6 HCALL HNX hR
            go_wp2_with fail
            go_ret
            rw [HR.out]
            exact ⟨rfl, HF6.out⟩
          | none =>
            refine HCALL.out.mono ?_
            rintro e w6 ⟨rfl, hst6, hb6⟩
            have hR : tryL f K (E + 1) = tryL f (K - (j + 1)) (E + 1 + ((j + 1 : Nat) : Int)) := HNX.out
            obtain ⟨sw, ⟨v, sm, so⟩, sc, sl, se⟩ := hst6
            dsimp only [Option.getD_none] at so
            rw [hl5, ← ints_snoc] at so
            obtain ⟨g6, c6, rfl⟩ := ownsRow_succ so
            have so2 := row_cut so (by simp [ints])
            have cm6 := sm.cell
            have fm6 := sm.frozen
            have HR := Lib.hid hR
            have hs6 := Nat.le_trans HB5.out.2 hb6.size
            have hst7 : ExSt (w6.setCell ⟨bm, 0, none⟩ (.slice (some ⟨g6, 0, none⟩) ms.length c6)) n1 bw bm bc bl be gw lw (cnt : Int) last ms :=
              ⟨sw.kept (grownBy_setCell' _ _ _) (by intro h; injection h with h; omega), ⟨_, sm.set _, so2.kept (grownBy_setCell' _ _ _) (.inr (fun h => sm.not_row (by decide) so2 h.symm))⟩,
                sc.kept (grownBy_setCell' _ _ _) (by intro h; injection h with h; omega), sl.kept (grownBy_setCell' _ _ _) (by intro h; injection h with h; omega), se.kept (grownBy_setCell' _ _ _) (by intro h; injection h with h; exact hme h.symm)⟩
            have hb7 : Below n1 W (w6.setCell ⟨bm, 0, none⟩ (.slice (some ⟨g6, 0, none⟩) ms.length c6)) := (HB5.out.1.trans hb6).grown (grownBy_setCell' _ _ _) (by exact hs6) (fun j e => by cases e; exact hbm)
            have hs7 := Nat.le_trans hs6 (grownBy_setCell' w6 bm (.slice (some ⟨g6, 0, none⟩) ms.length c6)).size
            have HF7 := Lib.hid (And.intro hst7 (And.intro hb7 hs7))
            have z1 : IntKind.i64.wrap (ms.length : Int) = (ms.length : Int) := by rw [IntKind.wrap_i64]; omega
            have z2 : (ms.length : Int) ≤ (c6 : Int) := by
              rcases so.2 with ⟨h1, _⟩ | ⟨g9, cap9, cur9, h1, h2, h3, h4, _⟩
              · cases h1
              · injection h1 with _ _ h8
                subst h8
                omega
            have z3 : (0 : Int) ≤ (ms.length : Int) := by omega
            have z4 : ms.length ≤ c6 := by omega
            clear sw sc sl se sm so so2 hst7 hb7 hs7 hb6 HCALL HNX hR HB5
            go_wp2_with fail
            go_roundw
            case rel => exact ⟨j + 1, by omega, by rw [HJ.out], HR.out, HF7.out⟩
            case measure => simp [intOf]; omega
        · obtain rfl : j = K := by omega
          have hr0 : tryL f j (E + 1) = none := by rw [htr, Nat.sub_self]; rfl
          have HR := Lib.hid hr0
          have HF8 := Lib.hid (And.intro (show ExSt wr n1 bw bm bc bl be gw lw (cnt : Int) last ms from ⟨sw, ⟨_, sm, so⟩, sc, sl, se⟩) hbl2)
          have hgt : last - (left : Int) < E + 1 + (j : Int) := by have := hKE j; omega
          clear sw sm so sc sl se hbl2 hsz htr hr0 hKE hjk
          generalize E + 1 + (j : Int) = m at *
          go_wp2_with fail
          go_ret
          rw [HR.out]
          exact ⟨rfl, HF8.out⟩

end Go.Proofs.Ytpmjheofjmdfeaa.ext
