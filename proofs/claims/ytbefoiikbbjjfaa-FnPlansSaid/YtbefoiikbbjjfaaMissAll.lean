/- Missed jobs, plainly. -/
/- Missed jobs, by the program and the model. -/
import Derived.Test.YtbefoiikbbjjfaaRows
import Derived.Test.YtbefoiikbbjjfaaSlc
import Derived.Test.YtbefoiikbbjjfaaSmall
import Derived.Test.YtbefoiikbbjjfaaPlanNum
import Derived.Test.YtbefoiikbbjjfaaOpens
import Derived.Test.YtbefoiikbbjjfaaListI
import Derived.Test.YtbefoiikbbjjfaaBeams
import Derived.Test.YtbefoiikbbjjfaaListBeam
import Derived.Test.YtbefoiikbbjjfaaListSlot
import Derived.Test.YtbefoiikbbjjfaaSwT
import Derived.Test.YtbefoiikbbjjfaaBeamsOk
import Derived.Test.YtbefoiikbbjjfaaPlanAll
import Derived.Test.YtbefoiikbbjjfaaBusyC
import Derived.Test.YtbefoiikbbjjfaaLateC
import Derived.WalkKit
import Derived.ProofKit
import Derived.OpenShut
import Derived.ShutString
import Derived.ChangeOld
import Derived.Below
import Derived.Lib.Hide
import Derived.BigQuiet
import Derived.Deep.QuietTactic
import Derived.WalkLawsBesides
import Derived.Outline
import Derived.Deep.LoopGhost
import Derived.Deep.RegionWith
import Derived.Deep.RegionHeld3
namespace Go.Proofs.Ytbefoiikbbjjfaa.missNum
set_option linter.unusedVariables false
open Go Go.RowKit
open Go.Proofs.Ytbefoiikbbjjfaa.slc Go.Proofs.Ytbefoiikbbjjfaa.small Go.Proofs.Ytbefoiikbbjjfaa.planNum
set_option linter.unusedVariables false

/-- The end of the slot k. -/
def fin (bs : List Bm) (ss : List Sl) (k : Nat) : Int := (sg ss k).2 + dw bs (sg ss k).1.toNat
/-- How many of the first k slots are of the beam j and have ended by u. -/
def don (bs : List Bm) (ss : List Sl) (u : Int) (j : Nat) : Nat → Nat
  | 0 => 0
  | k + 1 => don bs ss u j k + (if (sg ss k).1 = (j : Int) ∧ fin bs ss k ≤ u then 1 else 0)
def due (bs : List Bm) (ss : List Sl) (k : Nat) : Int := (cnt ss (sg ss k).1.toNat k + 1) * ev bs (sg ss k).1.toNat
/-- How many of the first k slots are of the beam j, are due by u and have ended by u. -/
def mis (bs : List Bm) (ss : List Sl) (u : Int) (j : Nat) : Nat → Nat
  | 0 => 0
  | k + 1 => mis bs ss u j k + (if (sg ss k).1 = (j : Int) ∧ (due bs ss k ≤ u ∧ fin bs ss k ≤ u) then 1 else 0)
theorem don_le (bs : List Bm) (ss : List Sl) (u : Int) (j : Nat) : ∀ k, don bs ss u j k ≤ k
  | 0 => Nat.le_refl _
  | k + 1 => by have := don_le bs ss u j k; unfold don; split <;> omega
theorem don_all (bs : List Bm) (ss : List Sl) (u : Int) (j : Nat) : ∀ k, (∀ i, i < k → (sg ss i).1 = (j : Int) → fin bs ss i ≤ u) → don bs ss u j k = cnt ss j k
  | 0, _ => rfl
  | k + 1, h => by
    have ih := don_all bs ss u j k fun i hi => h i (by omega)
    unfold don cnt
    rw [ih]
    by_cases e : (sg ss k).1 = (j : Int)
    · rw [if_pos ⟨e, h k (by omega) e⟩, if_pos e]
    · rw [if_neg (fun x => e x.1), if_neg e]
/-- In a plan, each slot begins behind the ends of those before it. -/
theorem fin_le {bs : List Bm} {ss : List Sl} (hab : ab bs = true) (h : ∀ k, k < ss.length → slotB bs ss k = true) : ∀ k, k < ss.length → ∀ i, i < k → fin bs ss i ≤ (sg ss k).2
  | 0, _, i, hi => by omega
  | k + 1, hk, i, hi => by
    have h1 := (slot_yes (h (k + 1) hk)).2.2
    unfold three at h1
    have h2 := of_decide_eq_true h1
    have h3 : (sg ss k).2 + dw bs (sg ss k).1.toNat + tu bs (sg ss k).1.toNat (sg ss (k + 1)).1.toNat ≤ (sg ss (k + 1)).2 := by
      rcases h2 with h2 | h2
      · omega
      · exact h2
    obtain ⟨j, t, e, hj, _⟩ := one_yes (slot_yes (h k (by omega))).1
    obtain ⟨j', t', e', hj', _⟩ := one_yes (slot_yes (h (k + 1) hk)).1
    have h4 : 0 ≤ tu bs (sg ss k).1.toNat (sg ss (k + 1)).1.toNat := by
      rw [e, e']
      exact (sw_bd (ab_bd hab (by simpa using hj)) (ab_bd hab (by simpa using hj'))).1
    have h5 : 1 ≤ dw bs (sg ss k).1.toNat := by
      rw [e]
      exact (ab_num hab (by simpa using hj)).1
    by_cases hik : i = k
    · subst hik
      unfold fin
      omega
    · have := fin_le hab h k (by omega) i (by omega)
      omega
theorem mis_min {bs : List Bm} {ss : List Sl} {u : Int} (h0 : 0 ≤ u) (hab : ab bs = true) (h : ∀ k, k < ss.length → slotB bs ss k = true) (j : Nat) (hj : j < bs.length) :
    ∀ k, k ≤ ss.length → (mis bs ss u j k : Int) = min (don bs ss u j k : Int) (u / ev bs j)
  | 0, _ => by
    have he : 1 ≤ ev bs j := by have := ab_num hab hj; unfold ev; omega
    have : 0 ≤ u / ev bs j := Int.ediv_nonneg h0 (by omega)
    unfold mis don
    omega
  | k + 1, hk => by
    have ih := mis_min h0 hab h j hj k (by omega)
    have he : 1 ≤ ev bs j := by have := ab_num hab hj; unfold ev; omega
    unfold mis don
    by_cases e : (sg ss k).1 = (j : Int)
    · by_cases hf : fin bs ss k ≤ u
      · have hd : don bs ss u j k = cnt ss j k := don_all bs ss u j k fun i hi _ => by
          have h1 := fin_le hab h k (by omega) i hi
          have h2 : 1 ≤ dw bs (sg ss k).1.toNat := by
            rw [e]
            exact (ab_num hab (by simpa using hj)).1
          unfold fin at hf
          omega
        have hdue : due bs ss k = ((cnt ss j k : Int) + 1) * ev bs j := by unfold due; rw [e]; rfl
        have hiff : due bs ss k ≤ u ↔ (cnt ss j k : Int) + 1 ≤ u / ev bs j := by
          rw [hdue]
          exact (Int.le_ediv_iff_mul_le (by omega)).symm
        rw [if_pos (show (sg ss k).1 = (j : Int) ∧ fin bs ss k ≤ u from ⟨e, hf⟩)]
        by_cases hq : (cnt ss j k : Int) + 1 ≤ u / ev bs j
        · rw [if_pos ⟨e, hiff.2 hq, hf⟩]
          omega
        · rw [if_neg (fun x => hq (hiff.1 x.2.1))]
          omega
      · rw [if_neg (fun x => hf x.2.2), if_neg (fun x => hf x.2)]
        omega
    · rw [if_neg (fun x => e x.1), if_neg (fun x => e x.1)]
      omega
/-- What MissedOf returns of the beam j. -/
def ms (bs : List Bm) (ss : List Sl) (u : Int) (j : Nat) : Int := max 0 (u / ev bs j - don bs ss u j ss.length)
theorem ms_is {bs : List Bm} {ss : List Sl} {u : Int} (h0 : 0 ≤ u) (hab : ab bs = true) (h : ∀ k, k < ss.length → slotB bs ss k = true) (j : Nat) (hj : j < bs.length) :
    u / ev bs j - mis bs ss u j ss.length = ms bs ss u j := by
  have := mis_min h0 hab h j hj ss.length (Nat.le_refl _)
  unfold ms
  omega

end Go.Proofs.Ytbefoiikbbjjfaa.missNum

namespace Go.Proofs.Ytbefoiikbbjjfaa.missC
open Go.ChangeShapes Go.WideShapes Go.ChangeAt Go.RowKit
open Go.ChangeMaps (open_string shut_string)
set_option linter.unusedVariables false
open Go Go.RowKit
open Go.Proofs.Ytbefoiikbbjjfaa.slc Go.Proofs.Ytbefoiikbbjjfaa.small Go.Proofs.Ytbefoiikbbjjfaa.opens Go.Proofs.Ytbefoiikbbjjfaa.beams Go.Proofs.Ytbefoiikbbjjfaa.listBeam Go.Proofs.Ytbefoiikbbjjfaa.planNum Go.Proofs.Ytbefoiikbbjjfaa.missNum Go.Proofs.Ytbefoiikbbjjfaa.swT Go.Proofs.Ytbefoiikbbjjfaa.beamsOk Go.Proofs.Ytbefoiikbbjjfaa.planDue Go.Proofs.Ytbefoiikbbjjfaa.planIs Go.Proofs.Ytbefoiikbbjjfaa.planSpec Go.Proofs.Ytbefoiikbbjjfaa.planTop Go.Proofs.Ytbefoiikbbjjfaa.busyC Go.Proofs.Ytbefoiikbbjjfaa.lateC

def mok (bs : List Bm) (ss : List Sl) (u : Int) : Bool := pl bs ss && decide (0 ≤ u ∧ u ≤ 100000)
def ML (bs : List Bm) (ss : List Sl) (u : Int) : List Int := if mok bs ss u = true then lof (ms bs ss u) bs.length else []
theorem ML_len (bs : List Bm) (ss : List Sl) (u : Int) : (ML bs ss u).length ≤ 65536 := by
  unfold ML
  split
  · rename_i h
    rw [lof_len]
    unfold mok at h
    simp only [Bool.and_eq_true] at h
    have := (ab_len (pl_and h.1).1).2
    omega
  · simp
theorem mok_pl {bs : List Bm} {ss : List Sl} {u : Int} (h : pl bs ss = false) : mok bs ss u = false ∧ ML bs ss u = [] := by
  have : mok bs ss u = false := by unfold mok; rw [h]; rfl
  exact ⟨this, by unfold ML; rw [if_neg (by simp [this])]⟩
theorem mok_u {bs : List Bm} {ss : List Sl} {u : Int} (h : ¬ (0 ≤ u ∧ u ≤ 100000)) : mok bs ss u = false ∧ ML bs ss u = [] := by
  have : mok bs ss u = false := by unfold mok; rw [decide_eq_false h]; simp
  exact ⟨this, by unfold ML; rw [if_neg (by simp [this])]⟩
theorem mok_yes {bs : List Bm} {ss : List Sl} {u : Int} (h : pl bs ss = true) (h2 : 0 ≤ u ∧ u ≤ 100000) : mok bs ss u = true ∧ ML bs ss u = lof (ms bs ss u) bs.length := by
  have : mok bs ss u = true := by unfold mok; rw [h, decide_eq_true h2]; rfl
  exact ⟨this, by unfold ML; rw [if_pos this]⟩
/-- What is missed behind k slots. -/
def mv (bs : List Bm) (ss : List Sl) (u : Int) (k : Nat) (j : Nat) : Int := u / ev bs j - mis bs ss u j k
theorem mis_le (bs : List Bm) (ss : List Sl) (u : Int) (j : Nat) : ∀ k, mis bs ss u j k ≤ k
  | 0 => Nat.le_refl _
  | k + 1 => by have := mis_le bs ss u j k; unfold mis; split <;> omega
theorem mv_hit (bs : List Bm) (ss : List Sl) (u : Int) (k j n : Nat) (hj : (sg ss k).1 = (j : Int)) (hn : j < n) (h1 : missNum.due bs ss k ≤ u) (h2 : fin bs ss k ≤ u) : (lst (iv (mv bs ss u k)) n).set j (.int .i64 (mv bs ss u k j - 1)) = lst (iv (mv bs ss u (k + 1))) n := by
  apply List.ext_getElem?
  intro i
  rw [List.getElem?_set]
  by_cases hi : j = i
  · subst hi
    rw [if_pos rfl, if_pos (by rw [lst_len]; exact hn), lst_get _ _ _ hn]
    unfold iv mv
    rw [show mis bs ss u j (k + 1) = mis bs ss u j k + 1 from by show mis bs ss u j k + _ = _; rw [if_pos ⟨hj, h1, h2⟩]]
    congr 2
    omega
  · rw [if_neg hi]
    by_cases h3 : i < n
    · rw [lst_get _ _ _ h3, lst_get _ _ _ h3]
      unfold iv mv
      rw [show mis bs ss u i (k + 1) = mis bs ss u i k from by show mis bs ss u i k + _ = _; rw [if_neg (fun x => hi (by have := x.1; rw [hj] at this; omega))]; rfl]
    · rw [List.getElem?_eq_none (by rw [lst_len]; omega), List.getElem?_eq_none (by rw [lst_len]; omega)]
theorem mv_pass (bs : List Bm) (ss : List Sl) (u : Int) (k n : Nat) (h : ¬ (missNum.due bs ss k ≤ u ∧ fin bs ss k ≤ u)) : lst (iv (mv bs ss u k)) n = lst (iv (mv bs ss u (k + 1))) n := lst_congr fun j _ => by
  unfold iv mv
  rw [show mis bs ss u j (k + 1) = mis bs ss u j k from by show mis bs ss u j k + _ = _; rw [if_neg (fun x => h x.2)]; rfl]
theorem mv_zero (bs : List Bm) (ss : List Sl) (u : Int) (n : Nat) : lst (iv (fun j => u / ev bs j)) n = lst (iv (mv bs ss u 0)) n := lst_congr fun j _ => by unfold iv mv mis; simp
theorem quo_bd {u s : Int} (h : 0 ≤ u ∧ u ≤ 100000) (hs : 1 ≤ s) : 0 ≤ u / s ∧ u / s ≤ 100000 := by
  refine ⟨Int.ediv_nonneg h.1 (by omega), ?_⟩
  have : u / s ≤ u := Int.ediv_le_self _ h.1
  omega

set_option maxHeartbeats 3200000 in
set_option maxRecDepth 100000 in
theorem miss_impl (A : Option Addr) (c : Nat) (A' : Option Addr) (c' B : Nat) (bs : List Bm) (ss : List Sl) (u : Int) (w : World) (hm : bs.length ≤ 9223372036854775807) (hm' : ss.length ≤ 9223372036854775807) (hr : Rd w B A (bs.length * 4) (bcell bs)) (hr' : Rd w B A' (ss.length * 2) (pcell ss)) (hB : B ≤ w.heap.size) :
    Calls Try.prog 29 #[.slice A bs.length c, .slice A' ss.length c', .int .i64 u] w fun e w' => ∃ A2 c2, e = .returned (.tuple #[.slice A2 (ML bs ss u).length c2, .bool (mok bs ss u)]) ∧ w'.ownsRow w.heap.size 2 1 (.slice A2 (ML bs ss u).length c2) (ML bs ss u).length (lst (cls (ML bs ss u)) (ML bs ss u).length) ∧ w.grownBy w' none := by
  have HA0 := is_impl A c A' c' B bs ss w hm hm' hr hr' hB
  cases hp : pl bs ss
  · rw [(mok_pl hp).1, (mok_pl hp).2]
    rw [hp] at HA0
    have HA := Lib.hid HA0
    clear HA0 hr hr' hp
    go_enter Try.func29, Try.ntmps29
    go_wp2_with fail
    refine HA.out.mono ?_
    rintro e w1 ⟨rfl, g1⟩
    go_wp2_with fail
    go_ret2
    exact ⟨none, 0, rfl, World.ownsRow_nil _ _ _ _, g1⟩
  · rw [hp] at HA0
    have HA := Lib.hid HA0
    by_cases hu : 0 ≤ u ∧ u ≤ 100000
    · rw [(mok_yes hp hu).1, (mok_yes hp hu).2, lof_len, ← lof_cls]
      obtain ⟨ha, hsp⟩ := pl_and hp
      have hk := BsOk.of ha
      have hs := sp_len hsp
      have HR := Lib.hid (fun (w' : World) (hg : w.grownBy w' none) => hr.kept0 hg hB)
      have HR' := Lib.hid (fun (w' : World) (hg : w.grownBy w' none) => hr'.kept0 hg hB)
      have HDU := Lib.hid (fun (w' : World) (hg : w.grownBy w' none) => due_c A A' c c' B bs ss w' hk (fun k h => (slot_yes (sp_at hsp h)).1) hs (hr.kept0 hg hB) (hr'.kept0 hg hB) (Nat.le_trans hB hg.size))
      have HEN := Lib.hid (fun (j t : Nat) (hj : j < bs.length) (ht : t ≤ 100000) (w' : World) (hg : w.grownBy w' none) => end_c A c B bs j t w' hk hj (by omega) (by omega) (hr.kept0 hg hB) (Nat.le_trans hB hg.size))
      have HSO := Lib.hid (fun k hk => slots_ok hsp k hk)
      have HMS := Lib.hid (fun j hj => ms_is hu.1 ha (fun k hk => sp_at hsp hk) j hj)
      have HK := Lib.hid hk
      have hl7 := hk.len
      obtain ⟨i0, hi0, hz0, hz1, hz2⟩ := info_parts planDue.info64
      obtain ⟨u0, u1⟩ := hu
      clear HA0 hr hr' hp ha hsp hk
      go_enter Try.func29, Try.ntmps29
      go_wp2_with fail
      refine HA.out.mono ?_
      rintro e w1 ⟨rfl, g1⟩
      have HG1 := Lib.hid g1
      clear g1
      go_wp2_with fail
      refine (within_yes _ _ _ _ u0 u1).mono ?_
      rintro e w' ⟨rfl, hw⟩
      subst hw
      go_wp2_with (at_make; refine wpList_make_full _ rfl _ _ _ rfl w1.heap.size 2 i0 (.int .i64 0) 1 Try.underlying46 hi0 hz0 hz1 _ _ _ _ bs.length rfl rfl rfl rfl (by rw [hz2]; omega) (by unfold maxLen; omega) (Nat.le_refl _) ?_; intro w3 hown hg3)
      rw [Nat.mul_one] at hown
      have HO3 := Lib.hid (show w3.ownsRow w1.heap.size 2 1 (.slice (some ⟨w1.heap.size, 0, none⟩) bs.length bs.length) bs.length (lst (mix (iv (fun j => u / ev bs j)) (fun _ => .int .i64 0) 0) bs.length) by
        rw [mix_zero, ← replicate_lst]
        exact (toList_madeCells_one (.int .i64 0) bs.length) ▸ hown)
      have HG3 := Lib.hid hg3
      clear hown hg3 hi0 hz0 hz1 hz2
      go_wp2_with fail
      go_loopw [27] (fun i wr => ∃ k : Nat, k ≤ bs.length ∧ i = .int .i64 k ∧ wr.ownsRow w1.heap.size 2 1 (.slice (some ⟨w1.heap.size, 0, none⟩) bs.length bs.length) bs.length (lst (mix (iv (fun j => u / ev bs j)) (fun _ => .int .i64 0) k) bs.length) ∧ w1.grownBy wr none) (fun i _ => bs.length - (intOf i).toNat)
      case atStart => exact ⟨0, Nat.zero_le _, rfl, HO3.out, HG3.out⟩
      case round =>
        obtain ⟨k, hkn, rfl, hown, hg⟩ := hrel
        by_cases hlt : k < bs.length
        · obtain ⟨ad, x, v, d, s, rfl, _, hx, hc0, hc1, hc2, hc3⟩ := Rd.four (HR.out wr (HG1.out.trans hg)) hlt
          have hn := HK.out.num k hlt
          rw [show bg bs k = _ from hx] at hn
          replace hn : 1 ≤ d ∧ d ≤ 10000 ∧ d ≤ s ∧ s ≤ 10000 := hn
          have hev : ev bs k = s := by unfold ev; rw [show bg bs k = _ from hx]
          have hga := World.grownBy_alloc wr (.cells #[.int .i64 x, .int .i64 v, .int .i64 d, .int .i64 s] 66) none
          have ho2 := own_kept0 hown hga
          have l0 := ho2.cellAt k (by omega)
          rw [lst_get _ _ _ hlt] at l0
          have lf := ho2.frozenAt k
          obtain ⟨P, Q⟩ := ho2.stored k (iv (fun j => u / ev bs j) k)
          rw [mix_set _ _ _ _ hlt] at P
          rw [show iv (fun j => u / ev bs j) k = .int .i64 (u / s) by show Value.int .i64 (u / ev bs k) = _; rw [hev]] at P Q
          have HP := Lib.hid P
          have HQ := Lib.hid (gb_new (hg.trans hga) Q (by intro g e; injection e with e; omega))
          have hsz := (own_base hown w1.heap.size rfl).2
          obtain ⟨q0, q1⟩ := quo_bd ⟨u0, u1⟩ (show 1 ≤ s by omega)
          have hs0 : s ≠ 0 := by omega
          have e1 : Int.tdiv u s = u / s := Int.tdiv_eq_ediv_of_nonneg u0
          rw [World.setCell_alloc_past _ _ _ _ hsz] at HP HQ
          clear hown hg hga ho2 P Q hx hev
          generalize hQV : u / s = QV at *
          go_wp2_with fail
          go_roundw
          case rel => exact ⟨k + 1, by omega, by go_num, HP.out, HQ.out⟩
          case measure => simp [intOf]; omega
        · obtain rfl : k = bs.length := by omega
          rw [mix_full, mv_zero bs ss u] at hown
          have HO := Lib.hid hown
          have HG := Lib.hid (HG1.out.trans hg)
          have HD := Lib.hid (HDU.out wr (HG1.out.trans hg))
          have hg1' := hg
          have HG1R := Lib.hid hg
          clear hown hg hg1'
          go_wp2_with fail
          refine HD.out.mono ?_
          rintro e w9 ⟨A2, c2, rfl, ho9, hg9⟩
          have HRD := Lib.hid (fun (w' : World) (hg : w9.grownBy w' (some w1.heap.size)) => (Rd.of_lst ho9 (Nat.mul_one _).symm).kept hg (Nat.le_refl _) (fun b hb _ e => by
            have h1 := (own_base ho9 b hb).1
            have h2 := (own_base HO.out w1.heap.size rfl).2
            injection e with e
            omega))
          have HO9 := Lib.hid (own_kept0 HO.out hg9)
          have HG9 := Lib.hid (HG1R.out.trans hg9)
          clear ho9 hg9
          go_wp2_with fail
          go_loopw [44] (fun i wr => ∃ k : Nat, k ≤ ss.length ∧ i = .int .i64 k ∧ wr.ownsRow w1.heap.size 2 1 (.slice (some ⟨w1.heap.size, 0, none⟩) bs.length bs.length) bs.length (lst (iv (mv bs ss u k)) bs.length) ∧ w9.grownBy wr (some w1.heap.size)) (fun i _ => ss.length - (intOf i).toNat)
          case atStart => exact ⟨0, Nat.zero_le _, rfl, HO9.out, World.grownBy.refl _ _⟩
          case round =>
            obtain ⟨k, hkn, rfl, hown, hg⟩ := hrel
            have hg1 : w1.grownBy wr none := gb_new HG9.out hg (by intro g e; injection e with e; omega)
            have hgw := HG1.out.trans hg1
            by_cases hlt : k < ss.length
            · obtain ⟨ad', x, y, rfl, _, hxy, hs0, hs1⟩ := Rd.slot (HR'.out wr hgw) hlt
              obtain ⟨j, t, e, hj, ht⟩ := HSO.out k hlt
              rw [hxy] at e
              obtain ⟨rfl, rfl⟩ : x = (j : Int) ∧ y = (t : Int) := by injection e with a b; exact ⟨a, b⟩
              obtain ⟨bd, rfl, _, hdu⟩ := (HRD.out wr hg).at_ hlt
              have hn := HK.out.num j hj
              have hdw : dw bs j = (bg bs j).2.2.1 := rfl
              rw [← hdw] at hn
              have hfin : fin bs ss k = (t : Int) + dw bs j := by
                unfold fin
                rw [hxy]
                rw [show ((j : Int), (t : Int)).1.toNat = j from Int.toNat_natCast j]
              have hdue : missNum.due bs ss k = du bs ss k := rfl
              have hjs : (sg ss k).1 = (j : Int) := by rw [hxy]
              have HHIT := Lib.hid (mv_hit bs ss u k j bs.length hjs hj)
              have HPASS := Lib.hid (mv_pass bs ss u k bs.length)
              have hml := mis_le bs ss u j k
              have hqb := quo_bd ⟨u0, u1⟩ (show 1 ≤ ev bs j by unfold ev; omega)
              have hmb : -200 ≤ mv bs ss u k j ∧ mv bs ss u k j ≤ 100000 := by unfold mv; omega
              have HE := Lib.hid (HEN.out j t hj ht wr hgw)
              have HOW := Lib.hid hown
              have HG := Lib.hid hg
              have HG1' := Lib.hid hg1
              have HGW := Lib.hid hgw
              rw [hfin, hdue] at HHIT HPASS
              clear hown hg hg1 hgw hxy e hfin hdue hjs hdw hml hqb
              generalize du bs ss k = D at *
              generalize dw bs j = W at *
              by_cases hdu1 : D ≤ u
              · by_cases hfi : (t : Int) + W ≤ u
                · have HH := Lib.hid (HHIT.out hdu1 hfi)
                  go_wp2_with fail
                  refine HE.out.mono ?_
                  rintro e w2 ⟨rfl, hg2⟩
                  have ho2 := own_kept0 HOW.out hg2
                  have l0 := ho2.cellAt j (by omega)
                  rw [lst_get _ _ _ hj] at l0
                  unfold iv at l0
                  have lf := ho2.frozenAt j
                  have x0 := hg2.cell hs0 (by simp)
                  obtain ⟨P, Q⟩ := ho2.stored j (.int .i64 (mv bs ss u k j - 1))
                  rw [HH.out] at P
                  have HP := Lib.hid P
                  have HQ := Lib.hid ((HG.out.trans (gb_any hg2 _)).trans Q)
                  clear ho2 P Q hg2
                  generalize mv bs ss u k j = M at *
                  go_wp2_with fail
                  go_roundw
                  case rel => exact ⟨k + 1, by omega, by go_num, HP.out, HQ.out⟩
                  case measure => simp [intOf]; omega
                · have HH := Lib.hid (HPASS.out (fun x => hfi x.2))
                  go_wp2_with fail
                  refine HE.out.mono ?_
                  rintro e w2 ⟨rfl, hg2⟩
                  have HP := Lib.hid (HH.out ▸ own_kept0 HOW.out hg2)
                  have HQ := Lib.hid (HG.out.trans (gb_any hg2 _))
                  clear hg2
                  go_wp2_with fail
                  go_roundw
                  case rel => exact ⟨k + 1, by omega, by go_num, HP.out, HQ.out⟩
                  case measure => simp [intOf]; omega
              · have HH := Lib.hid (HPASS.out (fun x => hdu1 x.1))
                have HP := Lib.hid (HH.out ▸ HOW.out)
                go_wp2_with fail
                go_roundw
                case rel => exact ⟨k + 1, by omega, by go_num, HP.out, HG.out⟩
                case measure => simp [intOf]; omega
            · obtain rfl : k = ss.length := by omega
              have hfinal : lst (iv (mv bs ss u ss.length)) bs.length = lst (fun k => .int .i64 (ms bs ss u k)) bs.length := lst_congr fun j hj => by
                unfold iv mv
                rw [HMS.out j hj]
              rw [hfinal] at hown
              have HH := Lib.hid (And.intro (own_mono hown HG1.out.size) hgw)
              clear hown hg hg1 hgw hfinal
              go_wp2_with fail
              go_ret2
              exact ⟨_, _, rfl, HH.out.1, HH.out.2⟩
    · rw [(mok_u hu).1, (mok_u hu).2]
      have HN := Lib.hid (show u < 0 ∨ 100000 < u by omega)
      clear HA0 hr hr' hp hu
      go_enter Try.func29, Try.ntmps29
      go_wp2_with fail
      refine HA.out.mono ?_
      rintro e w1 ⟨rfl, g1⟩
      go_wp2_with fail
      refine (within_no _ _ _ _ HN.out).mono ?_
      rintro e w' ⟨rfl, hw⟩
      subst hw
      go_wp2_with fail
      go_ret2
      exact ⟨none, 0, rfl, World.ownsRow_nil _ _ _ _, g1⟩

section
attribute [local go_sem ↓] app_stop
set_option maxHeartbeats 3200000 in
set_option maxRecDepth 100000 in
theorem miss_spec : True := trivial
end

end Go.Proofs.Ytbefoiikbbjjfaa.missC
