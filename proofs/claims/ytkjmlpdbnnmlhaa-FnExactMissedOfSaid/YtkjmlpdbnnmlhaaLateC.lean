/- How late jobs end, by the program and the model. -/
import Derived.Test.YtkjmlpdbnnmlhaaRows
import Derived.Test.YtkjmlpdbnnmlhaaSlc
import Derived.Test.YtkjmlpdbnnmlhaaSmall
import Derived.Test.YtkjmlpdbnnmlhaaOpens
import Derived.Test.YtkjmlpdbnnmlhaaListI
import Derived.Test.YtkjmlpdbnnmlhaaBeams
import Derived.Test.YtkjmlpdbnnmlhaaListBeam
import Derived.Test.YtkjmlpdbnnmlhaaListSlot
import Derived.Test.YtkjmlpdbnnmlhaaPlanNum
import Derived.Test.YtkjmlpdbnnmlhaaSwT
import Derived.Test.YtkjmlpdbnnmlhaaBeamsOk
import Derived.Test.YtkjmlpdbnnmlhaaPlanDue
import Derived.Test.YtkjmlpdbnnmlhaaPlanIs
import Derived.Test.YtkjmlpdbnnmlhaaPlanSpec
import Derived.Test.YtkjmlpdbnnmlhaaPlanTop
import Derived.Test.YtkjmlpdbnnmlhaaBusyC
import Derived.WalkKit
import Derived.ProofKit
import Derived.OpenShut
import Derived.ShutString
import Derived.ChangeOld
import Derived.Below
import Derived.Lib.Hide
import Derived.BigQuiet
import Derived.Deep.QuietTactic
import Derived.WalkLawsBesides
import Derived.Outline
import Derived.Deep.QuietTactic
import Derived.BigQuiet
import Derived.Deep.LoopGhost
import Derived.Deep.RegionWith
import Derived.Deep.RegionHeld3
import Derived.StillTailTactics
namespace Go.Proofs.Ytkjmlpdbnnmlhaa.lateC
open Go.ChangeShapes Go.WideShapes Go.ChangeAt Go.RowKit
open Go.ChangeMaps (open_string shut_string)
set_option linter.unusedVariables false
open Go Go.RowKit
open Go.Proofs.Ytkjmlpdbnnmlhaa.slc Go.Proofs.Ytkjmlpdbnnmlhaa.small Go.Proofs.Ytkjmlpdbnnmlhaa.opens Go.Proofs.Ytkjmlpdbnnmlhaa.beams Go.Proofs.Ytkjmlpdbnnmlhaa.listBeam Go.Proofs.Ytkjmlpdbnnmlhaa.planNum Go.Proofs.Ytkjmlpdbnnmlhaa.swT Go.Proofs.Ytkjmlpdbnnmlhaa.beamsOk Go.Proofs.Ytkjmlpdbnnmlhaa.planDue Go.Proofs.Ytkjmlpdbnnmlhaa.planIs Go.Proofs.Ytkjmlpdbnnmlhaa.planSpec Go.Proofs.Ytkjmlpdbnnmlhaa.planTop Go.Proofs.Ytkjmlpdbnnmlhaa.busyC

/-- How late the slot k ends. -/
def ltv (bs : List Bm) (ss : List Sl) (k : Nat) : Int := max ((sg ss k).2 + dw bs (sg ss k).1.toNat - du bs ss k) 0
def LL (bs : List Bm) (ss : List Sl) : List Int := if pl bs ss = true then lof (ltv bs ss) ss.length else []
theorem LL_len (bs : List Bm) (ss : List Sl) : (LL bs ss).length ≤ 65536 := by
  unfold LL
  split
  · rename_i h
    rw [lof_len]
    have := sp_len (pl_and h).2
    omega
  · simp
def iv (f : Nat → Int) (k : Nat) : Value := .int .i64 (f k)

set_option maxHeartbeats 1600000 in
set_option maxRecDepth 100000 in
theorem late_impl (A : Option Addr) (c : Nat) (A' : Option Addr) (c' B : Nat) (bs : List Bm) (ss : List Sl) (w : World) (hm : bs.length ≤ 9223372036854775807) (hm' : ss.length ≤ 9223372036854775807) (hr : Rd w B A (bs.length * 4) (bcell bs)) (hr' : Rd w B A' (ss.length * 2) (pcell ss)) (hB : B ≤ w.heap.size) :
    Calls Try.prog 36 #[.slice A bs.length c, .slice A' ss.length c'] w fun e w' => ∃ A2 c2, e = .returned (.tuple #[.slice A2 (LL bs ss).length c2, .bool (pl bs ss)]) ∧ w'.ownsRow w.heap.size 2 1 (.slice A2 (LL bs ss).length c2) (LL bs ss).length (lst (cls (LL bs ss)) (LL bs ss).length) ∧ w.grownBy w' none := by
  have HA0 := is_impl A c A' c' B bs ss w hm hm' hr hr' hB
  cases hp : pl bs ss
  · rw [show LL bs ss = [] by unfold LL; rw [if_neg (by simp [hp])]]
    rw [hp] at HA0
    have HA := Lib.hid HA0
    clear HA0 hr hr' hp
    go_enter Try.func36, Try.ntmps36
    go_wp2_with fail
    refine HA.out.mono ?_
    rintro e w1 ⟨rfl, g1⟩
    go_wp2_with fail
    go_ret2
    exact ⟨none, 0, rfl, World.ownsRow_nil _ _ _ _, g1⟩
  · rw [hp] at HA0
    have HA := Lib.hid HA0
    have hLL : LL bs ss = lof (ltv bs ss) ss.length := by unfold LL; rw [if_pos hp]
    rw [hLL, lof_len, ← lof_cls]
    obtain ⟨ha, hsp⟩ := pl_and hp
    have hk := BsOk.of ha
    have hs := sp_len hsp
    have HR := Lib.hid (fun (w' : World) (hg : w.grownBy w' none) => hr.kept0 hg hB)
    have HR' := Lib.hid (fun (w' : World) (hg : w.grownBy w' none) => hr'.kept0 hg hB)
    have HDU := Lib.hid (fun (w' : World) (hg : w.grownBy w' none) => due_c A A' c c' B bs ss w' hk (fun k h => (slot_yes (sp_at hsp h)).1) hs (hr.kept0 hg hB) (hr'.kept0 hg hB) (Nat.le_trans hB hg.size))
    have HEN := Lib.hid (fun (j t : Nat) (hj : j < bs.length) (ht : t ≤ 100000) (w' : World) (hg : w.grownBy w' none) => end_c A c B bs j t w' hk hj (by omega) (by omega) (hr.kept0 hg hB) (Nat.le_trans hB hg.size))
    have HSO := Lib.hid (fun k hk => slots_ok hsp k hk)
    have HK := Lib.hid hk
    have hl7 := hk.len
    clear HA0 hr hr' hp ha hsp hk hLL
    go_enter Try.func36, Try.ntmps36
    go_wp2_with fail
    refine HA.out.mono ?_
    rintro e w1 ⟨rfl, g1⟩
    have HD := Lib.hid (HDU.out w1 g1)
    have HG1 := Lib.hid g1
    clear g1
    go_wp2_with fail
    refine HD.out.mono ?_
    rintro e w9 ⟨A2, c2, rfl, ho9, hg9⟩
    have HO9 := Lib.hid ho9
    have HG9 := Lib.hid hg9
    clear ho9 hg9
    go_wp2_with fail
    go_loopw [18] (fun i wr => ∃ k : Nat, k ≤ ss.length ∧ i = .int .i64 k ∧ wr.ownsRow w1.heap.size 2 1 (.slice A2 ss.length c2) ss.length (lst (mix (iv (ltv bs ss)) (iv (du bs ss)) k) ss.length) ∧ w1.grownBy wr none) (fun i _ => ss.length - (intOf i).toNat)
    case atStart => exact ⟨0, Nat.zero_le _, rfl, by rw [mix_zero]; exact HO9.out, HG9.out⟩
    case round =>
      obtain ⟨k, hkn, rfl, hown, hg⟩ := hrel
      by_cases hlt : k < ss.length
      · have hgw := HG1.out.trans hg
        obtain ⟨ad', x, y, rfl, _, hxy, hs0, hs1⟩ := Rd.slot (HR'.out wr hgw) hlt
        obtain ⟨j, t, e, hj, ht⟩ := HSO.out k hlt
        rw [hxy] at e
        obtain ⟨rfl, rfl⟩ : x = (j : Int) ∧ y = (t : Int) := by injection e with a b; exact ⟨a, b⟩
        obtain ⟨g, cap, hv, _, _⟩ := hown.form (by omega)
        obtain ⟨rfl, rfl⟩ : A2 = some ⟨g, 0, none⟩ ∧ c2 = cap := by injection hv with a b c; exact ⟨a, c⟩
        have hc := hown.cellAt k (by omega)
        rw [lst_get _ _ _ hlt, show mix (iv (ltv bs ss)) (iv (du bs ss)) k k = .int .i64 (du bs ss k) by unfold mix iv; rw [if_neg (by omega)]] at hc
        have hn := HK.out.num j hj
        have hdw : dw bs j = (bg bs j).2.2.1 := rfl
        obtain ⟨c0, c1⟩ := cnt_bd bs ss k j (by omega) (by unfold ev; omega) (by unfold ev; omega)
        have hduv : du bs ss k = cnt ss j k * ev bs j + ev bs j := by
          unfold du
          rw [hxy]
          show ((cnt ss (j : Int).toNat k : Int) + 1) * ev bs (j : Int).toNat = _
          rw [Int.toNat_natCast, Int.add_mul, Int.one_mul]
        have hev : ev bs j = (bg bs j).2.2.2 := rfl
        have hlv : ltv bs ss k = max ((t : Int) + dw bs j - du bs ss k) 0 := by
          unfold ltv
          rw [hxy]
          rw [show ((j : Int), (t : Int)).1.toNat = j from Int.toNat_natCast j]
        have hd1 : 0 ≤ du bs ss k ∧ du bs ss k ≤ 3000000 := by omega
        rw [← hdw] at hn
        have HE := Lib.hid (HEN.out j t hj ht wr hgw)
        have HOW := Lib.hid hown
        have HG := Lib.hid hg
        have HLV := Lib.hid hlv
        have hgb := (own_base hown g rfl).1
        clear hv hown hg hgw hlv hxy e hduv c0 c1 hev hdw
        generalize du bs ss k = D at *
        generalize dw bs j = W at *
        go_wp2_with fail
        refine HE.out.mono ?_
        rintro e w2 ⟨rfl, hg2⟩
        have ho2 := own_kept0 HOW.out hg2
        have hc2 := ho2.cellAt k (by omega)
        rw [lst_get _ _ _ hlt] at hc2
        have hf2 := ho2.frozenAt k
        obtain ⟨P, Q⟩ := ho2.stored k (iv (ltv bs ss) k)
        rw [mix_set _ _ _ _ hlt] at P
        rw [show iv (ltv bs ss) k = .int .i64 (max ((t : Int) + W - D) 0) by unfold iv; rw [HLV.out]] at P Q
        have hmx : (if (t : Int) + W - D < 0 then (0 : Int) else (t : Int) + W - D) = max ((t : Int) + W - D) 0 := by omega
        have HP := Lib.hid P
        have HQ := Lib.hid (gb_new (HG.out.trans hg2) Q (by intro g' e; injection e with e; omega))
        clear ho2 P Q hg2
        generalize max ((t : Int) + W - D) 0 = M at *
        go_wp2_with fail
        go_roundw
        case rel => exact ⟨k + 1, by omega, by go_num, HP.out, HQ.out⟩
        case measure => simp [intOf]; omega
      · obtain rfl : k = ss.length := by omega
        rw [mix_full] at hown
        have HH := Lib.hid (And.intro (own_mono hown HG1.out.size) (HG1.out.trans hg))
        clear hown hg
        go_wp2_with fail
        go_ret2
        exact ⟨_, _, rfl, HH.out.1, HH.out.2⟩

/-- append, told apart: the walk is not to lay it open. -/
def appS (ats : Array TypeId) (ty : TypeId) (args : Array Value) : Sem Value := Builtin.append_ ats ty args
theorem app_stop (ats : Array TypeId) (ty : TypeId) (args : Array Value) : Builtin.append_ ats ty args = appS ats ty args := rfl
theorem row_slice {W : World} {base : Nat} {e : TypeId} {size : Nat} {v : Value} {k : Nat} {xs : List Value} (h : W.ownsRow base e size v k xs) : ∃ A c, v = .slice A k c := by
  rcases h.2 with ⟨rfl, rfl⟩ | ⟨g, cap, _, rfl, _⟩
  · exact ⟨_, _, rfl⟩
  · exact ⟨_, _, rfl⟩
/-- One number more. -/
theorem app_v {base : Nat} {W w5 : World} {A : Option Addr} {cap k : Nat} {xs : List Int} (x : Int) (i0 : TypeInfo) (hi0 : Try.prog.info? 2 = some i0) (hz0 : i0.zero = some (.int .i64 0)) (hz1 : i0.size = 1) (hz2 : i0.bytes = 8)
    (hb : base ≤ W.heap.size) (h2 : W.ownsRow base 2 1 (.slice A k cap) k (ints xs)) (hk : k < 100000) (gd : W.grownBy w5 none) :
    ∃ A6 c6 w6, (appS #[50, 50] 50 #[.slice A k cap, .slice (some ⟨w5.heap.size, 0, none⟩) 1 1]).run Try.prog (w5.alloc (.cells #[.int .i64 x] 2)) = .ok (.slice A6 (k + 1) c6) w6 ∧
      w6.ownsRow base 2 1 (.slice A6 (k + 1) c6) (k + 1) (ints (xs ++ [x])) ∧ (w5.alloc (.cells #[.int .i64 x] 2)).grownBy w6 (A.map Addr.block) := by
  have b2 := own_kept0 h2 gd
  have hs5 := Nat.le_trans hb gd.size
  obtain ⟨v6, w6, hrun, r1, r2, _⟩ := run_append_own (P := Try.prog) (w5.alloc (.cells #[.int .i64 x] 2)) base 50 50 2 i0 (.int .i64 0) 1 8 Try.underlying50 hi0 hz0 hz1 hz2 rfl (by decide) _ _ _ (b2.alloc _) ⟨w5.heap.size, 0, none⟩ 1 1 [.int .i64 x] rfl (cell_one_new _ _ _) (by simp [Value.oneCell']) (by unfold maxLen; omega) (by omega) (by simp; omega)
  obtain ⟨A6, c6, rfl⟩ := row_slice r1
  rw [slc.ints_snoc] at r1
  rw [own_blk] at r2
  exact ⟨A6, c6, w6, hrun, r1, r2⟩
/-- One number more, behind a draw. -/
theorem app_d {base : Nat} {W : World} {A : Option Addr} {cap k : Nat} {xs : List Int} (x : Int) (i0 : TypeInfo) (hi0 : Try.prog.info? 2 = some i0) (hz0 : i0.zero = some (.int .i64 0)) (hz1 : i0.size = 1) (hz2 : i0.bytes = 8)
    (hb : base ≤ W.heap.size) (h2 : W.ownsRow base 2 1 (.slice A k cap) k (ints xs)) (hk : k < 100000) :
    ∃ A6 c6 w6, (appS #[50, 50] 50 #[.slice A k cap, .slice (some ⟨W.heap.size, 0, none⟩) 1 1]).run Try.prog (W.alloc (.cells #[.int .i64 x] 2)).drew = .ok (.slice A6 (k + 1) c6) w6 ∧
      w6.ownsRow base 2 1 (.slice A6 (k + 1) c6) (k + 1) (ints (xs ++ [x])) ∧ (W.alloc (.cells #[.int .i64 x] 2)).drew.grownBy w6 (A.map Addr.block) := by
  obtain ⟨v6, w6, hrun, r1, r2, _⟩ := run_append_own (P := Try.prog) (W.alloc (.cells #[.int .i64 x] 2)).drew base 50 50 2 i0 (.int .i64 0) 1 8 Try.underlying50 hi0 hz0 hz1 hz2 rfl (by decide) _ _ _ (own_kept0 (h2.alloc _) (gb_drewN _ 1 none)) ⟨W.heap.size, 0, none⟩ 1 1 [.int .i64 x] rfl (cell_one_new W _ _) (by simp [Value.oneCell']) (by unfold maxLen; omega) (by omega) (by show base ≤ (W.alloc _).heap.size; simp; omega)
  obtain ⟨A6, c6, rfl⟩ := row_slice r1
  rw [slc.ints_snoc] at r1
  rw [own_blk] at r2
  exact ⟨A6, c6, w6, hrun, r1, r2⟩
/-- A change of a row that is new to the beginning, beside a row. -/
theorem gb_new2 {a b c : World} {row r2 : Option Nat} (h : a.grownBy b row) (k : b.grownBy c r2) (hr : ∀ g, r2 = some g → a.heap.size ≤ g) : a.grownBy c row :=
  ⟨k.os.trans h.os, k.tape.trans h.tape, k.output.trans h.output, Nat.le_trans h.size k.size, fun i hi hn =>
    (k.block i (Nat.lt_of_lt_of_le hi h.size) (fun e => by have := hr i e.symm; omega)).trans (h.block i hi hn)⟩
theorem lof_snoc (f : Nat → Int) (k : Nat) : lof f (k + 1) = lof f k ++ [f k] := by simp [lof, List.range_succ]
theorem lof_ints (f : Nat → Int) (n : Nat) : lst (iv f) n = ints (lof f n) := by
  have h := cls_lst (lof f n)
  rw [lof_len] at h
  rw [← h]
  exact lof_cls f n

section
attribute [local go_sem ↓] app_stop
set_option maxHeartbeats 3200000 in
set_option maxRecDepth 100000 in
theorem late_spec (A : Option Addr) (c : Nat) (A' : Option Addr) (c' B : Nat) (bs : List Bm) (ss : List Sl) (w : World) (hm : bs.length ≤ 9223372036854775807) (hm' : ss.length ≤ 9223372036854775807) (hr : Rd w B A (bs.length * 4) (bcell bs)) (hr' : Rd w B A' (ss.length * 2) (pcell ss)) (hB : B ≤ w.heap.size) :
    Calls Try.prog 35 #[.slice A bs.length c, .slice A' ss.length c'] w fun e w' => ∃ A2 c2, e = .returned (.tuple #[.slice A2 (LL bs ss).length c2, .bool (pl bs ss)]) ∧ w'.ownsRow w.heap.size 2 1 (.slice A2 (LL bs ss).length c2) (LL bs ss).length (lst (cls (LL bs ss)) (LL bs ss).length) ∧ w.grownBy w' none := by
  have HA0 := are_spec A c B bs w hm hr hB
  cases ha : ab bs
  · rw [show LL bs ss = [] by unfold LL; rw [if_neg (by simp [pl_ab ha])], pl_ab ha]
    rw [ha] at HA0
    have HA := Lib.hid HA0
    clear HA0 hr hr' ha
    go_enter Try.func35, Try.ntmps35
    go_wp2_with fail
    refine HA.out.mono ?_
    rintro e w1 ⟨rfl, g1⟩
    go_wp2_with fail
    go_ret2
    exact ⟨none, 0, rfl, World.ownsRow_nil _ _ _ _, g1⟩
  · rw [ha] at HA0
    have HA := Lib.hid HA0
    have hk := BsOk.of ha
    have HS0 := fun (w' : World) (hg : w.grownBy w' none) => slots_spec A c A' c' B bs ss w' hk hm' (hr.kept0 hg hB) (hr'.kept0 hg hB) (Nat.le_trans hB hg.size)
    cases hsp : sp bs ss
    · rw [show LL bs ss = [] by unfold LL; rw [if_neg (by simp [pl_sp hsp])], pl_sp hsp]
      rw [hsp] at HS0
      have HS := Lib.hid HS0
      clear HA0 HS0 hr hr' ha hsp hk
      go_enter Try.func35, Try.ntmps35
      go_wp2_with fail
      refine HA.out.mono ?_
      rintro e w1 ⟨rfl, g1⟩
      go_wp2_with fail
      refine (HS.out _ g1).mono ?_
      rintro e w2 ⟨rfl, g2⟩
      go_wp2_with fail
      go_ret2
      exact ⟨none, 0, rfl, World.ownsRow_nil _ _ _ _, g1.trans g2⟩
    · rw [hsp] at HS0
      have HS := Lib.hid HS0
      have hLL : LL bs ss = lof (ltv bs ss) ss.length := by unfold LL; rw [if_pos (pl_mk ha hsp)]
      rw [hLL, lof_len, ← lof_cls, pl_mk ha hsp]
      have hs := sp_len hsp
      have HR := Lib.hid (fun (w' : World) (hg : w.grownBy w' none) => hr.kept0 hg hB)
      have HR' := Lib.hid (fun (w' : World) (hg : w.grownBy w' none) => hr'.kept0 hg hB)
      have HSO := Lib.hid (fun k hk => slots_ok hsp k hk)
      have HK := Lib.hid hk
      have hl7 := hk.len
      obtain ⟨i0, hi0, hz0, hz1, hz2⟩ := info_parts planDue.info64
      clear HA0 HS0 hr hr' ha hsp hk hLL
      go_enter Try.func35, Try.ntmps35
      go_wp2_with fail
      refine HA.out.mono ?_
      rintro e w1 ⟨rfl, g1⟩
      go_wp2_with fail
      refine (HS.out _ g1).mono ?_
      rintro e w2 ⟨rfl, g2⟩
      have HG2 := Lib.hid (g1.trans g2)
      clear g1 g2
      go_wp2_with (at_make; refine wpList_make_full _ rfl _ _ _ rfl w2.heap.size 2 i0 (.int .i64 0) 1 Try.underlying50 hi0 hz0 hz1 _ _ _ _ bs.length rfl rfl rfl rfl (by rw [hz2]; omega) (by unfold maxLen; omega) (Nat.le_refl _) ?_; intro w3 hown hg3)
      rw [Nat.mul_one] at hown
      have HO3 := Lib.hid (show w3.ownsRow w2.heap.size 2 1 (.slice (some ⟨w2.heap.size, 0, none⟩) bs.length bs.length) bs.length (lst (cn ss 0) bs.length) by
        rw [← cn_zero, ← replicate_lst]
        exact (toList_madeCells_one (.int .i64 0) bs.length) ▸ hown)
      have HG3 := Lib.hid (HG2.out.trans hg3)
      have h23 : w2.heap.size < w3.heap.size := by
        have := own_base HO3.out w2.heap.size rfl
        exact this.2
      clear hown hg3
      go_wp2_with fail
      have HST := Lib.hid (World.ownsRow_lit (base := w3.heap.size) (e := 2) (size := 1) w3 #[] 0 (Nat.le_refl _) (Nat.zero_le _) rfl)
      go_loopw [7, 25] (fun v i wr => ∃ k : Nat, k ≤ ss.length ∧ i = .int .i64 k ∧ wr.ownsRow w2.heap.size 2 1 (.slice (some ⟨w2.heap.size, 0, none⟩) bs.length bs.length) bs.length (lst (cn ss k) bs.length) ∧ wr.ownsRow w3.heap.size 2 1 v k (ints (lof (ltv bs ss) k)) ∧ w3.grownBy wr (some w2.heap.size)) (fun _ i _ => ss.length - (intOf i).toNat)
      case atStart => exact ⟨0, Nat.zero_le _, rfl, own_kept0 HO3.out (World.grownBy_alloc _ _ _), HST.out, World.grownBy_alloc _ _ _⟩
      case round =>
        obtain ⟨k, hkn, rfl, hnx, hou, hg⟩ := hrel
        obtain ⟨A5, c5, rfl⟩ := row_slice hou
        have hgw : w.grownBy wr none := gb_new HG3.out hg (by intro g e; injection e with e; have := HG2.out.size; omega)
        by_cases hlt : k < ss.length
        · obtain ⟨ad', x, y, rfl, _, hxy, hs0, hs1⟩ := Rd.slot (HR'.out wr hgw) hlt
          obtain ⟨j, t, e, hj, ht⟩ := HSO.out k hlt
          rw [hxy] at e
          obtain ⟨rfl, rfl⟩ : x = (j : Int) ∧ y = (t : Int) := by injection e with a b; exact ⟨a, b⟩
          obtain ⟨ad, u, v, d, s, rfl, _, hx, hc0, hc1, hc2, hc3⟩ := Rd.four (HR.out wr hgw) hj
          have hn := HK.out.num j hj
          rw [show bg bs j = _ from hx] at hn
          replace hn : 1 ≤ d ∧ d ≤ 10000 ∧ d ≤ s ∧ s ≤ 10000 := hn
          have hev : ev bs j = s := by unfold ev; rw [show bg bs j = _ from hx]
          have hdw : dw bs j = d := by unfold dw; rw [show bg bs j = _ from hx]
          have hcl := cnt_le ss j k
          have hset := cn_set ss k j bs.length (by rw [hxy]) hj
          have gA0 := World.grownBy_alloc wr (.cells #[.int .i64 u, .int .i64 v, .int .i64 d, .int .i64 s] 78) none
          have y0 := gA0.cell hs0 (by simp)
          have y1 := gA0.cell hs1 (by simp)
          have hlv : ltv bs ss k = max 0 ((t : Int) + d - ((cnt ss j k : Int) + 1) * s) := by
            unfold ltv du
            rw [hxy]
            rw [show ((j : Int), (t : Int)).1.toNat = j from Int.toNat_natCast j, hev, hdw]
            exact Int.max_comm _ _
          obtain ⟨c0, c1⟩ := cnt_bd bs ss (k + 1) j (by omega) (by omega) (by omega)
          rw [show cnt ss j (k + 1) = cnt ss j k + 1 from by show cnt ss j k + _ = _; rw [if_pos (by rw [hxy])], hev, Int.natCast_add] at c0 c1
          replace c0 : 0 ≤ ((cnt ss j k : Int) + 1) * s := c0
          replace c1 : ((cnt ss j k : Int) + 1) * s ≤ 2000000 := c1
          have l0 := hnx.cellAt j (by omega)
          rw [lst_get _ _ _ hj] at l0
          unfold cn at l0
          have lf := hnx.frozenAt j
          have y2 := gA0.cell l0 (by simp)
          have y3 := (own_kept0 hnx gA0).frozenAt j
          obtain ⟨P, Q⟩ := hnx.stored j (.int .i64 ((cnt ss j k : Int) + 1))
          rw [hset] at P
          have hbk := (own_base hnx w2.heap.size rfl).2
          have hz3 : w3.heap.size ≤ wr.heap.size := hg.size
          have HA5 := Lib.hid (own_base hou)
          have hws := HG2.out.size
          generalize hC : cnt ss j k = C at *
          -- the world behind the store
          have b2 : (wr.setCell ⟨w2.heap.size, j, none⟩ (.int .i64 ((C : Int) + 1))).ownsRow w3.heap.size 2 1 (.slice A5 k c5) k (ints (lof (ltv bs ss) k)) :=
            World.ownsRow.kept hou Q (by
              cases hA : (Value.slice A5 k c5).ownBlock with
              | none => exact .inl rfl
              | some b =>
                refine .inr fun e => ?_
                rw [own_blk] at hA
                have := (own_base hou b hA).1
                injection e with e
                omega)
          have ga := World.grownBy_alloc (wr.setCell ⟨w2.heap.size, j, none⟩ (.int .i64 ((C : Int) + 1))) (.cells #[.int .i64 u, .int .i64 v, .int .i64 d, .int .i64 s] 78) none
          have hsz : (wr.setCell ⟨w2.heap.size, j, none⟩ (.int .i64 ((C : Int) + 1))).heap.size = wr.heap.size := by simp
          obtain ⟨⟨p0, p1, p2, p3⟩, _⟩ := cells4 (block1 (World.grownBy.refl ((wr.setCell ⟨w2.heap.size, j, none⟩ (.int .i64 ((C : Int) + 1))).alloc (.cells #[.int .i64 u, .int .i64 v, .int .i64 d, .int .i64 s] 78)) none))
          rw [hsz] at p0 p1 p2 p3
          have cN : (wr.setCell ⟨w2.heap.size, j, none⟩ (.int .i64 ((C : Int) + 1))).cell? ⟨w2.heap.size, j, none⟩ = some (.int .i64 ((C : Int) + 1)) := by
            have := P.cellAt j (by omega)
            rw [lst_get _ _ _ hj] at this
            unfold cn at this
            rw [this, show cnt ss j (k + 1) = C + 1 from by show cnt ss j k + _ = _; rw [if_pos (by rw [hxy]), hC]]
            simp
          have r1 := ga.cell cN (by simp)
          obtain ⟨ad2, x2, y2, e2, hadb, hxy2, ht0, ht1⟩ := Rd.slot (HR'.out ((wr.setCell ⟨w2.heap.size, j, none⟩ (.int .i64 ((C : Int) + 1))).alloc (.cells #[.int .i64 u, .int .i64 v, .int .i64 d, .int .i64 s] 78)) ((gb_new hgw Q (by intro g e; injection e with e; have := HG2.out.size; omega)).trans ga)) hlt
          obtain rfl : ad' = ad2 := by injection e2
          rw [hxy] at hxy2
          obtain ⟨rfl, rfl⟩ : (j : Int) = x2 ∧ (t : Int) = y2 := by injection hxy2 with a b; exact ⟨a, b⟩
          have r4 := own_kept0 P ga
          have r5 := own_kept0 b2 ga
          have r6 : w3.grownBy ((wr.setCell ⟨w2.heap.size, j, none⟩ (.int .i64 ((C : Int) + 1))).alloc (.cells #[.int .i64 u, .int .i64 v, .int .i64 d, .int .i64 s] 78)) (some w2.heap.size) := (hg.trans Q).trans (gb_any ga _)
          have hsw : w3.heap.size ≤ ((wr.setCell ⟨w2.heap.size, j, none⟩ (.int .i64 ((C : Int) + 1))).alloc (.cells #[.int .i64 u, .int .i64 v, .int .i64 d, .int .i64 s] 78)).heap.size := r6.size
          generalize hD : ((C : Int) + 1) * s = D at *
          have w1 : IntKind.i64.wrap ((t : Int) + d) = (t : Int) + d := by rw [IntKind.wrap_i64]; omega
          have w5 : IntKind.i64.wrap D = D := by rw [IntKind.wrap_i64]; omega
          have w7 : IntKind.i64.wrap ((t : Int) + d - D) = (t : Int) + d - D := by rw [IntKind.wrap_i64]; omega
          have j0 : (0 : Int) ≤ (j : Int) := by omega
          have j1 : (j : Int) < (bs.length : Int) := by omega
          have k0 : (0 : Int) ≤ (k : Int) := by omega
          have k1 : (k : Int) < (ss.length : Int) := by omega
          have HM := Lib.hid (fun (w : World) => (max_c 0 ((t : Int) + d - D) w).mono (fun e w' h => And.intro h.1 h.2.symm))
          have hk5 : k < 100000 := by omega
          have hsn := lof_snoc (ltv bs ss) k
          rw [hlv] at hsn
          clear hlv b2 P Q ga hset hou hnx hg hgw cN hC hx hev hdw e e2 hxy hxy2 hsz
          generalize max 0 ((t : Int) + d - D) = MX at *
          have R5 := Lib.hid r5
          have RR := Lib.hid (And.intro r4 r6)
          have HSN := Lib.hid hsn
          clear r4 r5 r6 hsn
          go_wp2_with fail
          clear y0 y1 y2 y3 l0 lf hs0 hs1 gA0 hc0 hc1 hc2 hc3 p0 p1
          generalize ((wr.setCell ⟨w2.heap.size, j, none⟩ (.int .i64 ((C : Int) + 1))).alloc (.cells #[.int .i64 u, .int .i64 v, .int .i64 d, .int .i64 s] 78)) = wb at *
          obtain ⟨A6, c6, w6, hrun, z1, z2⟩ := app_d MX i0 hi0 hz0 hz1 hz2 hsw R5.out hk5
          have hab := own_base R5.out
          have g5 : wb.grownBy (wb.alloc (.cells #[.int .i64 MX] 2)).drew none := World.grownBy.trans (World.grownBy_alloc wb (.cells #[.int .i64 MX] 2) none) (gb_drewN _ 1 none)
          have z3 := World.ownsRow.kept (own_kept0 RR.out.1 g5) z2 (by
            refine .inr fun e => ?_
            have := hab w2.heap.size (by simpa [Value.ownBlock] using e.symm)
            omega)
          have z4 := gb_new2 (RR.out.2.trans (gb_any g5 _)) z2 (fun g e => (hab g e).1)
          rw [← HSN.out] at z1
          have ZZ := Lib.hid (And.intro z3 (And.intro z1 z4))
          have q7 := RR.out.2
          have q8 := RR.out.2.trans (gb_any g5 _)
          have q9 := z4
          have f1 := g5.cell p2 (by simp)
          have f2 := g5.cell p3 (by simp)
          have f3 := g5.cell r1 (by simp)
          have f4 := g5.cell ht0 (by simp)
          have f5 := g5.cell ht1 (by simp)
          have e1 := z2.cell f1 (fun e => by have := HA5.out _ e.symm; dsimp only at this; omega)
          have e2 := z2.cell f2 (fun e => by have := HA5.out _ e.symm; dsimp only at this; omega)
          have e3 := z2.cell f3 (fun e => by have := HA5.out _ e.symm; dsimp only at this; omega)
          have e4 := z2.cell f4 (fun e => by have := HA5.out _ e.symm; rw [add_block] at this; omega)
          have e5 := z2.cell f5 (fun e => by have := HA5.out _ e.symm; dsimp only at this; rw [add_block] at this; omega)
          clear z1 z2 z3 z4 hab
          go_region_held3 (fun w' => w'.cell? ⟨wr.heap.size, 2, none⟩ = some (.int .i64 d) ∧ w'.cell? ⟨wr.heap.size, 3, none⟩ = some (.int .i64 s) ∧ w'.cell? ⟨w2.heap.size, j, none⟩ = some (.int .i64 ((C : Int) + 1)) ∧ w'.cell? (ad'.add (k * 2)) = some (.int .i64 j) ∧ w'.cell? ⟨(ad'.add (k * 2)).block, (ad'.add (k * 2)).off + 1, none⟩ = some (.int .i64 t) ∧ w3.grownBy w' (some w2.heap.size))
            (first
              | (go_split_ands
                 exact ⟨hg.cell (by assumption) (by simp), hg.cell (by assumption) (by simp), hg.cell (by assumption) (by simp), hg.cell (by assumption) (by simp), hg.cell (by assumption) (by simp), World.grownBy.trans (by assumption) (gb_any hg _)⟩)
              | exact ⟨p2, p3, r1, ht0, ht1, ⟨q7.os, q7.tape, q7.output, q7.size, q7.block⟩⟩
              | exact ⟨f1, f2, f3, f4, f5, ⟨q8.os, q8.tape, q8.output, q8.size, q8.block⟩⟩
              | exact ⟨e1, e2, e3, e4, e5, ⟨q9.os, q9.tape, q9.output, q9.size, q9.block⟩⟩)
            ((go_at_call 84; refine (HM.out _).mono ?_; rintro e w5 ⟨rfl, hq5⟩; have hg : w5.grownBy w5 none := World.grownBy.refl _ _))
          go_wp2_with fail
          go_roundw
          case rel => exact ⟨k + 1, by omega, by go_num, ZZ.out.1, ZZ.out.2.1, ZZ.out.2.2⟩
          case measure => simp [intOf]; omega
        · obtain rfl : k = ss.length := by omega
          rw [← lof_ints] at hou
          have HH := Lib.hid (And.intro (own_mono hou (Nat.le_trans HG2.out.size (by omega))) hgw)
          clear hnx hou hg hgw
          go_wp2_with fail
          go_ret2
          exact ⟨_, _, rfl, HH.out.1, HH.out.2⟩
end

end Go.Proofs.Ytkjmlpdbnnmlhaa.lateC
