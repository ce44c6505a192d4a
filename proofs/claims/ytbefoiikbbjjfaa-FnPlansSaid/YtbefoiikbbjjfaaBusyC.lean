/- The ticks of dwells and of turns, by the program and the model. -/
import Derived.Test.YtbefoiikbbjjfaaRows
import Derived.Test.YtbefoiikbbjjfaaSlc
import Derived.Test.YtbefoiikbbjjfaaSmall
import Derived.Test.YtbefoiikbbjjfaaOpens
import Derived.Test.YtbefoiikbbjjfaaBeams
import Derived.Test.YtbefoiikbbjjfaaListBeam
import Derived.Test.YtbefoiikbbjjfaaListSlot
import Derived.Test.YtbefoiikbbjjfaaPlanNum
import Derived.Test.YtbefoiikbbjjfaaSwT
import Derived.Test.YtbefoiikbbjjfaaBeamsOk
import Derived.Test.YtbefoiikbbjjfaaPlanAll
import Derived.WalkKit
import Derived.ProofKit
import Derived.OpenShut
import Derived.ShutString
import Derived.ChangeOld
import Derived.Below
import Derived.Lib.Hide
import Derived.BigQuiet
import Derived.Deep.QuietTactic
import Derived.WalkLawsBesides
import Derived.Outline
import Derived.Deep.LoopGhost
import Derived.Deep.RegionWith
import Derived.Deep.RegionHeld3
namespace Go.Proofs.Ytbefoiikbbjjfaa.busyC
open Go.ChangeShapes Go.WideShapes Go.ChangeAt Go.RowKit
open Go.ChangeMaps (open_string shut_string)
set_option linter.unusedVariables false
open Go Go.RowKit
open Go.Proofs.Ytbefoiikbbjjfaa.slc Go.Proofs.Ytbefoiikbbjjfaa.small Go.Proofs.Ytbefoiikbbjjfaa.opens Go.Proofs.Ytbefoiikbbjjfaa.beams Go.Proofs.Ytbefoiikbbjjfaa.listBeam Go.Proofs.Ytbefoiikbbjjfaa.planNum Go.Proofs.Ytbefoiikbbjjfaa.swT Go.Proofs.Ytbefoiikbbjjfaa.beamsOk Go.Proofs.Ytbefoiikbbjjfaa.planDue Go.Proofs.Ytbefoiikbbjjfaa.planIs Go.Proofs.Ytbefoiikbbjjfaa.planSpec Go.Proofs.Ytbefoiikbbjjfaa.planTop

theorem slots_ok {bs : List Bm} {ss : List Sl} (h : sp bs ss = true) (k : Nat) (hk : k < ss.length) : ∃ j t : Nat, sg ss k = ((j : Int), (t : Int)) ∧ j < bs.length ∧ t ≤ 100000 := by
  obtain ⟨j, t, e, h1, h2⟩ := one_yes (slot_yes (sp_at h hk)).1
  exact ⟨j, t, e, h1, h2⟩
/-- The sums of the first k dwells and turns. -/
def dws (bs : List Bm) (ss : List Sl) : Nat → Int
  | 0 => 0
  | k + 1 => dws bs ss k + dw bs (sg ss k).1.toNat
def tus (bs : List Bm) (ss : List Sl) : Nat → Int
  | 0 => 0
  | k + 1 => tus bs ss k + (if k = 0 then 0 else tu bs (sg ss (k - 1)).1.toNat (sg ss k).1.toNat)
theorem sums_bd {bs : List Bm} {ss : List Sl} (hk : BsOk bs) (h : sp bs ss = true) : ∀ k, k ≤ ss.length → 0 ≤ dws bs ss k ∧ dws bs ss k ≤ 10000 * k ∧ 0 ≤ tus bs ss k ∧ tus bs ss k ≤ 8 * k
  | 0, _ => by unfold dws tus; omega
  | k + 1, hn => by
    have ih := sums_bd hk h k (by omega)
    obtain ⟨j, t, e, hj, _⟩ := slots_ok h k (by omega)
    have h1 := hk.num j hj
    unfold dws tus
    rw [e]
    rw [show ((j : Int), (t : Int)).1.toNat = j from Int.toNat_natCast j]
    have h2 : dw bs j = (bg bs j).2.2.1 := rfl
    have h3 : 0 ≤ (if k = 0 then (0 : Int) else tu bs (sg ss (k - 1)).1.toNat j) ∧ (if k = 0 then (0 : Int) else tu bs (sg ss (k - 1)).1.toNat j) ≤ 8 := by
      split
      · omega
      · obtain ⟨j', t', e', hj', _⟩ := slots_ok h (k - 1) (by omega)
        rw [e']
        rw [show ((j' : Int), (t' : Int)).1.toNat = j' from Int.toNat_natCast j']
        exact sw_bd (hk.bd j' hj') (hk.bd j hj)
    omega
def BR (bs : List Bm) (ss : List Sl) : Int × Int × Bool := if pl bs ss = true then (dws bs ss ss.length, tus bs ss ss.length, true) else (0, 0, false)

set_option maxHeartbeats 1600000 in
set_option maxRecDepth 100000 in
theorem busy_impl (A : Option Addr) (c : Nat) (A' : Option Addr) (c' B : Nat) (bs : List Bm) (ss : List Sl) (w : World) (hm : bs.length ≤ 9223372036854775807) (hm' : ss.length ≤ 9223372036854775807) (hr : Rd w B A (bs.length * 4) (bcell bs)) (hr' : Rd w B A' (ss.length * 2) (pcell ss)) (hB : B ≤ w.heap.size) :
    Calls Try.prog 30 #[.slice A bs.length c, .slice A' ss.length c'] w fun e w' => e = .returned (.tuple #[.int .i64 (BR bs ss).1, .int .i64 (BR bs ss).2.1, .bool (BR bs ss).2.2]) ∧ w.grownBy w' none := by
  have HA0 := is_impl A c A' c' B bs ss w hm hm' hr hr' hB
  cases hp : pl bs ss
  · rw [show BR bs ss = (0, 0, false) by unfold BR; rw [if_neg (by simp [hp])]]
    rw [hp] at HA0
    have HA := Lib.hid HA0
    clear HA0 hr hr' hp
    go_enter Try.func30, Try.ntmps30
    go_wp2_with fail
    refine HA.out.mono ?_
    rintro e w1 ⟨rfl, g1⟩
    go_wp2_with fail
    exact bodyPost_ret (v := .tuple #[.int .i64 0, .int .i64 0, .bool false]) (by simp [results, Try.results30, go_sem]) rfl ⟨rfl, g1⟩
  · rw [hp] at HA0
    have HA := Lib.hid HA0
    have HBR := Lib.hid (show BR bs ss = (dws bs ss ss.length, tus bs ss ss.length, true) by unfold BR; rw [if_pos hp])
    obtain ⟨ha, hsp⟩ := pl_and hp
    have hk := BsOk.of ha
    have hs := sp_len hsp
    have HR := Lib.hid (fun (w' : World) (hg : w.grownBy w' none) => hr.kept0 hg hB)
    have HR' := Lib.hid (fun (w' : World) (hg : w.grownBy w' none) => hr'.kept0 hg hB)
    have HTU := Lib.hid (fun (j i : Nat) (t : Nat) (hj : j < bs.length) (hi : i < bs.length) (w' : World) (hg : w.grownBy w' none) => turn_c A c B bs j i t w' hk hj hi (hr.kept0 hg hB) (Nat.le_trans hB hg.size))
    have HSO := Lib.hid (fun k hk => slots_ok hsp k hk)
    have HBD := Lib.hid (fun k hn => sums_bd hk hsp k hn)
    have HK := Lib.hid hk
    have hl7 := hk.len
    clear HA0 hr hr' hp ha hsp hk
    go_enter Try.func30, Try.ntmps30
    go_wp2_with fail
    refine HA.out.mono ?_
    rintro e w1 ⟨rfl, g1⟩
    have HG1 := Lib.hid g1
    clear g1
    go_wp2_with fail
    go_loopw [7, 8, 17] (fun p q i wr => ∃ k : Nat, k ≤ ss.length ∧ i = .int .i64 k ∧ p = .int .i64 (dws bs ss k) ∧ q = .int .i64 (tus bs ss k) ∧ w.grownBy wr none) (fun _ _ i _ => ss.length - (intOf i).toNat)
    case atStart => exact ⟨0, Nat.zero_le _, rfl, rfl, rfl, HG1.out⟩
    case round =>
      obtain ⟨k, hkn, rfl, rfl, rfl, hg⟩ := hrel
      by_cases hlt : k < ss.length
      · obtain ⟨ad', x, y, rfl, _, hxy, hs0, hs1⟩ := Rd.slot (HR'.out wr hg) hlt
        obtain ⟨j, t, e, hj, ht⟩ := HSO.out k hlt
        rw [hxy] at e
        obtain ⟨rfl, rfl⟩ : x = (j : Int) ∧ y = (t : Int) := by injection e with a b; exact ⟨a, b⟩
        obtain ⟨ad, u, v, d, s, rfl, _, hx, _, _, hc2, _⟩ := Rd.four (HR.out wr hg) hj
        have hn := HK.out.num j hj
        rw [show bg bs j = _ from hx] at hn
        replace hn : 1 ≤ d ∧ d ≤ 10000 ∧ d ≤ s ∧ s ≤ 10000 := hn
        obtain ⟨b1, b2, b3, b4⟩ := HBD.out k hkn
        have hd1 : dws bs ss (k + 1) = dws bs ss k + d := by
          show dws bs ss k + dw bs (sg ss k).1.toNat = _
          rw [hxy]
          rw [show ((j : Int), (t : Int)).1.toNat = j from Int.toNat_natCast j]
          unfold dw
          rw [show bg bs j = _ from hx]
        have HD1 := Lib.hid hd1
        have HX := Lib.hid hxy
        have hga := World.grownBy_alloc wr (.cells #[.int .i64 j, .int .i64 t] 69) none
        obtain ⟨p1, p2⟩ := boxed2 (World.grownBy.refl (wr.alloc (.cells #[.int .i64 j, .int .i64 t] 69)) none)
        have r2 := hga.cell hc2 (by simp)
        have HGA := Lib.hid (hg.trans hga)
        have j0 : (0 : Int) ≤ (j : Int) := by omega
        have j1 : (j : Int) < (bs.length : Int) := by omega
        by_cases hk0 : k = 0
        · have HT1 := Lib.hid (show tus bs ss (k + 1) = tus bs ss k by show tus bs ss k + (if k = 0 then 0 else _) = _; rw [if_pos hk0]; omega)
          generalize dws bs ss k = P at *
          generalize tus bs ss k = Q at *
          have z3 : ¬ (0 : Int) < (k : Int) := by omega
          have z4 : ¬ 0 < k := by omega
          clear hk0 hx hxy hd1 e hg hga
          go_wp2_with fail
          go_roundw
          case rel => exact ⟨k + 1, by omega, by go_num, by rw [HD1.out], by rw [HT1.out], HGA.out⟩
          case measure => simp [intOf]; omega
        · obtain ⟨q, hq⟩ : ∃ q : Nat, k = q + 1 := ⟨k - 1, by omega⟩
          have hqk : (k : Int) - 1 = (q : Int) := by omega
          have hql : q < ss.length := by omega
          obtain ⟨ad2, x', y', e2, _, hxy', ht0, ht1⟩ := Rd.slot (HR'.out _ HGA.out) hql
          obtain rfl : ad' = ad2 := by injection e2
          obtain ⟨j', t', e', hj', ht'⟩ := HSO.out q hql
          rw [hxy'] at e'
          obtain ⟨rfl, rfl⟩ : x' = (j' : Int) ∧ y' = (t' : Int) := by injection e' with a b; exact ⟨a, b⟩
          have HT1 := Lib.hid (show tus bs ss (k + 1) = tus bs ss k + tu bs j' j by
            show tus bs ss k + (if k = 0 then 0 else _) = _
            rw [if_neg hk0, show k - 1 = q by omega, hxy', hxy]
            rw [show ((j : Int), (t : Int)).1.toNat = j from Int.toNat_natCast j, show ((j' : Int), (t' : Int)).1.toNat = j' from Int.toNat_natCast j'])
          obtain ⟨c1, c2⟩ : 0 ≤ tu bs j' j ∧ tu bs j' j ≤ 8 := sw_bd (HK.out.bd j' hj') (HK.out.bd j hj)
          have HT := Lib.hid (HTU.out j' j t' hj' hj)
          generalize tu bs j' j = TU at *
          generalize dws bs ss k = P at *
          generalize tus bs ss k = Q at *
          have z3 : (0 : Int) < (k : Int) := by omega
          have z4 : 0 < k := by omega
          have q0 : (0 : Int) ≤ (q : Int) := by omega
          have q1 : (q : Int) < (ss.length : Int) := by omega
          have q2 : IntKind.i64.wrap ((k : Int) - 1) = (q : Int) := by rw [IntKind.wrap_i64]; omega
          have q5 : IntKind.i64.wrap (Q + TU) = Q + TU := by rw [IntKind.wrap_i64]; omega
          have HQ := Lib.hid hq
          have gA := HGA.out
          clear hk0 hx hxy hd1 e hg hga hq e2 e' hxy'
          go_wp2_with fail
          have q4 : IntKind.i64.wrap (q : Int) = (q : Int) := by rw [IntKind.wrap_i64]; omega
          generalize hwb : wr.alloc (.cells #[.int .i64 j, .int .i64 t] 69) = wb at *
          generalize hgb : wr.heap.size = gb at *
          clear hwb hgb hc2 r2 hs0 hs1
          go_region_held3 (fun w' => w'.cell? ⟨gb, 0, none⟩ = some (.int .i64 j) ∧ w'.cell? (ad'.add (q * 2)) = some (.int .i64 j') ∧ w'.cell? ⟨(ad'.add (q * 2)).block, (ad'.add (q * 2)).off + 1, none⟩ = some (.int .i64 t') ∧ w.grownBy w' none)
            (first
              | (go_split_ands
                 exact ⟨hg.cell (by assumption) (by simp), hg.cell (by assumption) (by simp), hg.cell (by assumption) (by simp), World.grownBy.trans (by assumption) hg⟩)
              | exact ⟨p1, ht0, ht1, ⟨gA.os, gA.tape, gA.output, gA.size, gA.block⟩⟩)
            ((go_at_call 105; refine (HT.out _ ?_).mono ?_; (first | exact gA | exact ⟨gA.os, gA.tape, gA.output, gA.size, gA.block⟩); rintro e w6 ⟨rfl, hg⟩; have gT : w.grownBy w6 none := (by refine World.grownBy.trans ?_ hg; exact ⟨gA.os, gA.tape, gA.output, gA.size, gA.block⟩)))
          have HGT := Lib.hid gT
          go_wp2_with fail
          go_roundw
          case rel => exact ⟨k + 1, by omega, by go_num, by rw [HD1.out], by rw [HT1.out], HGT.out⟩
          case measure => simp [intOf]; omega
      · obtain rfl : k = ss.length := by omega
        have HG := Lib.hid hg
        clear hg
        go_wp2_with fail
        rw [HBR.out]
        exact bodyPost_ret (v := .tuple #[.int .i64 (dws bs ss ss.length), .int .i64 (tus bs ss ss.length), .bool true]) (by simp [results, Try.results30, go_sem]) rfl ⟨rfl, HG.out⟩

set_option maxHeartbeats 1600000 in
set_option maxRecDepth 100000 in
theorem busy_spec : True := trivial

end Go.Proofs.Ytbefoiikbbjjfaa.busyC
