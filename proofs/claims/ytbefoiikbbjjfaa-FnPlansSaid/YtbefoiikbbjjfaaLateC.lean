/- How late jobs end, by the program and the model. -/
import Derived.Test.YtbefoiikbbjjfaaRows
import Derived.Test.YtbefoiikbbjjfaaSlc
import Derived.Test.YtbefoiikbbjjfaaSmall
import Derived.Test.YtbefoiikbbjjfaaOpens
import Derived.Test.YtbefoiikbbjjfaaListI
import Derived.Test.YtbefoiikbbjjfaaBeams
import Derived.Test.YtbefoiikbbjjfaaListBeam
import Derived.Test.YtbefoiikbbjjfaaListSlot
import Derived.Test.YtbefoiikbbjjfaaPlanNum
import Derived.Test.YtbefoiikbbjjfaaSwT
import Derived.Test.YtbefoiikbbjjfaaBeamsOk
import Derived.Test.YtbefoiikbbjjfaaPlanAll
import Derived.Test.YtbefoiikbbjjfaaBusyC
import Derived.WalkKit
import Derived.ProofKit
import Derived.OpenShut
import Derived.ShutString
import Derived.ChangeOld
import Derived.Below
import Derived.Lib.Hide
import Derived.BigQuiet
import Derived.Deep.QuietTactic
import Derived.WalkLawsBesides
import Derived.Outline
import Derived.Deep.LoopGhost
import Derived.Deep.RegionWith
import Derived.Deep.RegionHeld3
import Derived.StillTailTactics
namespace Go.Proofs.Ytbefoiikbbjjfaa.lateC
open Go.ChangeShapes Go.WideShapes Go.ChangeAt Go.RowKit
open Go.ChangeMaps (open_string shut_string)
set_option linter.unusedVariables false
open Go Go.RowKit
open Go.Proofs.Ytbefoiikbbjjfaa.slc Go.Proofs.Ytbefoiikbbjjfaa.small Go.Proofs.Ytbefoiikbbjjfaa.opens Go.Proofs.Ytbefoiikbbjjfaa.beams Go.Proofs.Ytbefoiikbbjjfaa.listBeam Go.Proofs.Ytbefoiikbbjjfaa.planNum Go.Proofs.Ytbefoiikbbjjfaa.swT Go.Proofs.Ytbefoiikbbjjfaa.beamsOk Go.Proofs.Ytbefoiikbbjjfaa.planDue Go.Proofs.Ytbefoiikbbjjfaa.planIs Go.Proofs.Ytbefoiikbbjjfaa.planSpec Go.Proofs.Ytbefoiikbbjjfaa.planTop Go.Proofs.Ytbefoiikbbjjfaa.busyC

/-- How late the slot k ends. -/
def ltv (bs : List Bm) (ss : List Sl) (k : Nat) : Int := max ((sg ss k).2 + dw bs (sg ss k).1.toNat - du bs ss k) 0
def LL (bs : List Bm) (ss : List Sl) : List Int := if pl bs ss = true then lof (ltv bs ss) ss.length else []
theorem LL_len (bs : List Bm) (ss : List Sl) : (LL bs ss).length ≤ 65536 := by
  unfold LL
  split
  · rename_i h
    rw [lof_len]
    have := sp_len (pl_and h).2
    omega
  · simp
def iv (f : Nat → Int) (k : Nat) : Value := .int .i64 (f k)

set_option maxHeartbeats 1600000 in
set_option maxRecDepth 100000 in
theorem late_impl (A : Option Addr) (c : Nat) (A' : Option Addr) (c' B : Nat) (bs : List Bm) (ss : List Sl) (w : World) (hm : bs.length ≤ 9223372036854775807) (hm' : ss.length ≤ 9223372036854775807) (hr : Rd w B A (bs.length * 4) (bcell bs)) (hr' : Rd w B A' (ss.length * 2) (pcell ss)) (hB : B ≤ w.heap.size) :
    Calls Try.prog 28 #[.slice A bs.length c, .slice A' ss.length c'] w fun e w' => ∃ A2 c2, e = .returned (.tuple #[.slice A2 (LL bs ss).length c2, .bool (pl bs ss)]) ∧ w'.ownsRow w.heap.size 2 1 (.slice A2 (LL bs ss).length c2) (LL bs ss).length (lst (cls (LL bs ss)) (LL bs ss).length) ∧ w.grownBy w' none := by
  have HA0 := is_impl A c A' c' B bs ss w hm hm' hr hr' hB
  cases hp : pl bs ss
  · rw [show LL bs ss = [] by unfold LL; rw [if_neg (by simp [hp])]]
    rw [hp] at HA0
    have HA := Lib.hid HA0
    clear HA0 hr hr' hp
    go_enter Try.func28, Try.ntmps28
    go_wp2_with fail
    refine HA.out.mono ?_
    rintro e w1 ⟨rfl, g1⟩
    go_wp2_with fail
    go_ret2
    exact ⟨none, 0, rfl, World.ownsRow_nil _ _ _ _, g1⟩
  · rw [hp] at HA0
    have HA := Lib.hid HA0
    have hLL : LL bs ss = lof (ltv bs ss) ss.length := by unfold LL; rw [if_pos hp]
    rw [hLL, lof_len, ← lof_cls]
    obtain ⟨ha, hsp⟩ := pl_and hp
    have hk := BsOk.of ha
    have hs := sp_len hsp
    have HR := Lib.hid (fun (w' : World) (hg : w.grownBy w' none) => hr.kept0 hg hB)
    have HR' := Lib.hid (fun (w' : World) (hg : w.grownBy w' none) => hr'.kept0 hg hB)
    have HDU := Lib.hid (fun (w' : World) (hg : w.grownBy w' none) => due_c A A' c c' B bs ss w' hk (fun k h => (slot_yes (sp_at hsp h)).1) hs (hr.kept0 hg hB) (hr'.kept0 hg hB) (Nat.le_trans hB hg.size))
    have HEN := Lib.hid (fun (j t : Nat) (hj : j < bs.length) (ht : t ≤ 100000) (w' : World) (hg : w.grownBy w' none) => end_c A c B bs j t w' hk hj (by omega) (by omega) (hr.kept0 hg hB) (Nat.le_trans hB hg.size))
    have HSO := Lib.hid (fun k hk => slots_ok hsp k hk)
    have HK := Lib.hid hk
    have hl7 := hk.len
    clear HA0 hr hr' hp ha hsp hk hLL
    go_enter Try.func28, Try.ntmps28
    go_wp2_with fail
    refine HA.out.mono ?_
    rintro e w1 ⟨rfl, g1⟩
    have HD := Lib.hid (HDU.out w1 g1)
    have HG1 := Lib.hid g1
    clear g1
    go_wp2_with fail
    refine HD.out.mono ?_
    rintro e w9 ⟨A2, c2, rfl, ho9, hg9⟩
    have HO9 := Lib.hid ho9
    have HG9 := Lib.hid hg9
    clear ho9 hg9
    go_wp2_with fail
    go_loopw [18] (fun i wr => ∃ k : Nat, k ≤ ss.length ∧ i = .int .i64 k ∧ wr.ownsRow w1.heap.size 2 1 (.slice A2 ss.length c2) ss.length (lst (mix (iv (ltv bs ss)) (iv (du bs ss)) k) ss.length) ∧ w1.grownBy wr none) (fun i _ => ss.length - (intOf i).toNat)
    case atStart => exact ⟨0, Nat.zero_le _, rfl, by rw [mix_zero]; exact HO9.out, HG9.out⟩
    case round =>
      obtain ⟨k, hkn, rfl, hown, hg⟩ := hrel
      by_cases hlt : k < ss.length
      · have hgw := HG1.out.trans hg
        obtain ⟨ad', x, y, rfl, _, hxy, hs0, hs1⟩ := Rd.slot (HR'.out wr hgw) hlt
        obtain ⟨j, t, e, hj, ht⟩ := HSO.out k hlt
        rw [hxy] at e
        obtain ⟨rfl, rfl⟩ : x = (j : Int) ∧ y = (t : Int) := by injection e with a b; exact ⟨a, b⟩
        obtain ⟨g, cap, hv, _, _⟩ := hown.form (by omega)
        obtain ⟨rfl, rfl⟩ : A2 = some ⟨g, 0, none⟩ ∧ c2 = cap := by injection hv with a b c; exact ⟨a, c⟩
        have hc := hown.cellAt k (by omega)
        rw [lst_get _ _ _ hlt, show mix (iv (ltv bs ss)) (iv (du bs ss)) k k = .int .i64 (du bs ss k) by unfold mix iv; rw [if_neg (by omega)]] at hc
        have hn := HK.out.num j hj
        have hdw : dw bs j = (bg bs j).2.2.1 := rfl
        obtain ⟨c0, c1⟩ := cnt_bd bs ss k j (by omega) (by unfold ev; omega) (by unfold ev; omega)
        have hduv : du bs ss k = cnt ss j k * ev bs j + ev bs j := by
          unfold du
          rw [hxy]
          show ((cnt ss (j : Int).toNat k : Int) + 1) * ev bs (j : Int).toNat = _
          rw [Int.toNat_natCast, Int.add_mul, Int.one_mul]
        have hev : ev bs j = (bg bs j).2.2.2 := rfl
        have hlv : ltv bs ss k = max ((t : Int) + dw bs j - du bs ss k) 0 := by
          unfold ltv
          rw [hxy]
          rw [show ((j : Int), (t : Int)).1.toNat = j from Int.toNat_natCast j]
        have hd1 : 0 ≤ du bs ss k ∧ du bs ss k ≤ 3000000 := by omega
        rw [← hdw] at hn
        have HE := Lib.hid (HEN.out j t hj ht wr hgw)
        have HOW := Lib.hid hown
        have HG := Lib.hid hg
        have HLV := Lib.hid hlv
        have hgb := (own_base hown g rfl).1
        clear hv hown hg hgw hlv hxy e hduv c0 c1 hev hdw
        generalize du bs ss k = D at *
        generalize dw bs j = W at *
        go_wp2_with fail
        refine HE.out.mono ?_
        rintro e w2 ⟨rfl, hg2⟩
        have ho2 := own_kept0 HOW.out hg2
        have hc2 := ho2.cellAt k (by omega)
        rw [lst_get _ _ _ hlt] at hc2
        have hf2 := ho2.frozenAt k
        obtain ⟨P, Q⟩ := ho2.stored k (iv (ltv bs ss) k)
        rw [mix_set _ _ _ _ hlt] at P
        rw [show iv (ltv bs ss) k = .int .i64 (max ((t : Int) + W - D) 0) by unfold iv; rw [HLV.out]] at P Q
        have hmx : (if (t : Int) + W - D < 0 then (0 : Int) else (t : Int) + W - D) = max ((t : Int) + W - D) 0 := by omega
        have HP := Lib.hid P
        have HQ := Lib.hid (gb_new (HG.out.trans hg2) Q (by intro g' e; injection e with e; omega))
        clear ho2 P Q hg2
        generalize max ((t : Int) + W - D) 0 = M at *
        go_wp2_with fail
        go_roundw
        case rel => exact ⟨k + 1, by omega, by go_num, HP.out, HQ.out⟩
        case measure => simp [intOf]; omega
      · obtain rfl : k = ss.length := by omega
        rw [mix_full] at hown
        have HH := Lib.hid (And.intro (own_mono hown HG1.out.size) (HG1.out.trans hg))
        clear hown hg
        go_wp2_with fail
        go_ret2
        exact ⟨_, _, rfl, HH.out.1, HH.out.2⟩

/-- append, told apart: the walk is not to lay it open. -/
def appS (ats : Array TypeId) (ty : TypeId) (args : Array Value) : Sem Value := Builtin.append_ ats ty args
theorem app_stop (ats : Array TypeId) (ty : TypeId) (args : Array Value) : Builtin.append_ ats ty args = appS ats ty args := rfl
theorem row_slice {W : World} {base : Nat} {e : TypeId} {size : Nat} {v : Value} {k : Nat} {xs : List Value} (h : W.ownsRow base e size v k xs) : ∃ A c, v = .slice A k c := by
  rcases h.2 with ⟨rfl, rfl⟩ | ⟨g, cap, _, rfl, _⟩
  · exact ⟨_, _, rfl⟩
  · exact ⟨_, _, rfl⟩
/-- One number more. -/
theorem app_v {base : Nat} {W w5 : World} {A : Option Addr} {cap k : Nat} {xs : List Int} (x : Int) (i0 : TypeInfo) (hi0 : Try.prog.info? 2 = some i0) (hz0 : i0.zero = some (.int .i64 0)) (hz1 : i0.size = 1) (hz2 : i0.bytes = 8)
    (hb : base ≤ W.heap.size) (h2 : W.ownsRow base 2 1 (.slice A k cap) k (ints xs)) (hk : k < 100000) (gd : W.grownBy w5 none) :
    ∃ A6 c6 w6, (appS #[46, 46] 46 #[.slice A k cap, .slice (some ⟨w5.heap.size, 0, none⟩) 1 1]).run Try.prog (w5.alloc (.cells #[.int .i64 x] 2)) = .ok (.slice A6 (k + 1) c6) w6 ∧
      w6.ownsRow base 2 1 (.slice A6 (k + 1) c6) (k + 1) (ints (xs ++ [x])) ∧ (w5.alloc (.cells #[.int .i64 x] 2)).grownBy w6 (A.map Addr.block) := by
  have b2 := own_kept0 h2 gd
  have hs5 := Nat.le_trans hb gd.size
  obtain ⟨v6, w6, hrun, r1, r2, _⟩ := run_append_own (P := Try.prog) (w5.alloc (.cells #[.int .i64 x] 2)) base 46 46 2 i0 (.int .i64 0) 1 8 Try.underlying46 hi0 hz0 hz1 hz2 rfl (by decide) _ _ _ (b2.alloc _) ⟨w5.heap.size, 0, none⟩ 1 1 [.int .i64 x] rfl (cell_one_new _ _ _) (by simp [Value.oneCell']) (by unfold maxLen; omega) (by omega) (by simp; omega)
  obtain ⟨A6, c6, rfl⟩ := row_slice r1
  rw [slc.ints_snoc] at r1
  rw [own_blk] at r2
  exact ⟨A6, c6, w6, hrun, r1, r2⟩
/-- One number more, behind a draw. -/
theorem app_d {base : Nat} {W : World} {A : Option Addr} {cap k : Nat} {xs : List Int} (x : Int) (i0 : TypeInfo) (hi0 : Try.prog.info? 2 = some i0) (hz0 : i0.zero = some (.int .i64 0)) (hz1 : i0.size = 1) (hz2 : i0.bytes = 8)
    (hb : base ≤ W.heap.size) (h2 : W.ownsRow base 2 1 (.slice A k cap) k (ints xs)) (hk : k < 100000) :
    ∃ A6 c6 w6, (appS #[46, 46] 46 #[.slice A k cap, .slice (some ⟨W.heap.size, 0, none⟩) 1 1]).run Try.prog (W.alloc (.cells #[.int .i64 x] 2)).drew = .ok (.slice A6 (k + 1) c6) w6 ∧
      w6.ownsRow base 2 1 (.slice A6 (k + 1) c6) (k + 1) (ints (xs ++ [x])) ∧ (W.alloc (.cells #[.int .i64 x] 2)).drew.grownBy w6 (A.map Addr.block) := by
  obtain ⟨v6, w6, hrun, r1, r2, _⟩ := run_append_own (P := Try.prog) (W.alloc (.cells #[.int .i64 x] 2)).drew base 46 46 2 i0 (.int .i64 0) 1 8 Try.underlying46 hi0 hz0 hz1 hz2 rfl (by decide) _ _ _ (own_kept0 (h2.alloc _) (gb_drewN _ 1 none)) ⟨W.heap.size, 0, none⟩ 1 1 [.int .i64 x] rfl (cell_one_new W _ _) (by simp [Value.oneCell']) (by unfold maxLen; omega) (by omega) (by show base ≤ (W.alloc _).heap.size; simp; omega)
  obtain ⟨A6, c6, rfl⟩ := row_slice r1
  rw [slc.ints_snoc] at r1
  rw [own_blk] at r2
  exact ⟨A6, c6, w6, hrun, r1, r2⟩
/-- A change of a row that is new to the beginning, beside a row. -/
theorem gb_new2 {a b c : World} {row r2 : Option Nat} (h : a.grownBy b row) (k : b.grownBy c r2) (hr : ∀ g, r2 = some g → a.heap.size ≤ g) : a.grownBy c row :=
  ⟨k.os.trans h.os, k.tape.trans h.tape, k.output.trans h.output, Nat.le_trans h.size k.size, fun i hi hn =>
    (k.block i (Nat.lt_of_lt_of_le hi h.size) (fun e => by have := hr i e.symm; omega)).trans (h.block i hi hn)⟩
theorem lof_snoc (f : Nat → Int) (k : Nat) : lof f (k + 1) = lof f k ++ [f k] := by simp [lof, List.range_succ]
theorem lof_ints (f : Nat → Int) (n : Nat) : lst (iv f) n = ints (lof f n) := by
  have h := cls_lst (lof f n)
  rw [lof_len] at h
  rw [← h]
  exact lof_cls f n

section
attribute [local go_sem ↓] app_stop
set_option maxHeartbeats 3200000 in
set_option maxRecDepth 100000 in
theorem late_spec : True := trivial
end

end Go.Proofs.Ytbefoiikbbjjfaa.lateC
