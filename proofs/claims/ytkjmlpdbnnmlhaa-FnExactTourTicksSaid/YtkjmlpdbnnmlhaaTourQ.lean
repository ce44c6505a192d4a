/- TourTicks by the model. -/
import Derived.Test.YtkjmlpdbnnmlhaaRows
import Derived.Test.YtkjmlpdbnnmlhaaSlc
import Derived.Test.YtkjmlpdbnnmlhaaSmall
import Derived.Test.YtkjmlpdbnnmlhaaOpens
import Derived.Test.YtkjmlpdbnnmlhaaListI
import Derived.Test.YtkjmlpdbnnmlhaaPlanNum
import Derived.Test.YtkjmlpdbnnmlhaaSwT
import Derived.Test.YtkjmlpdbnnmlhaaBeamsOk
import Derived.Test.YtkjmlpdbnnmlhaaListDir
import Derived.Test.YtkjmlpdbnnmlhaaDirsOk
import Derived.Test.YtkjmlpdbnnmlhaaSortO
import Derived.Test.YtkjmlpdbnnmlhaaSeqV
import Derived.Test.YtkjmlpdbnnmlhaaOrdC
import Derived.Test.YtkjmlpdbnnmlhaaTourC
import Derived.Test.YtkjmlpdbnnmlhaaTourS
import Derived.WalkKit
import Derived.ProofKit
import Derived.OpenShut
import Derived.ShutString
import Derived.ChangeOld
import Derived.Below
import Derived.Lib.Hide
import Derived.BigQuiet
import Derived.Deep.QuietTactic
import Derived.WalkLawsBesides
import Derived.Outline
import Derived.Deep.QuietTactic
import Derived.BigQuiet
import Derived.Deep.LoopGhost
import Derived.Deep.RegionHeld3
import Derived.Deep.RegionWith
import Derived.Deep.OwnRows
namespace Go.Proofs.Ytkjmlpdbnnmlhaa.tourQ
open Go.ChangeShapes Go.WideShapes Go.ChangeAt Go.RowKit
open Go.ChangeMaps (open_string shut_string)
set_option linter.unusedVariables false
open Go Go.RowKit
open Go.Proofs.Ytkjmlpdbnnmlhaa.slc Go.Proofs.Ytkjmlpdbnnmlhaa.small Go.Proofs.Ytkjmlpdbnnmlhaa.opens Go.Proofs.Ytkjmlpdbnnmlhaa.listI Go.Proofs.Ytkjmlpdbnnmlhaa.planNum Go.Proofs.Ytkjmlpdbnnmlhaa.swT Go.Proofs.Ytkjmlpdbnnmlhaa.beamsOk Go.Proofs.Ytkjmlpdbnnmlhaa.dirsOk Go.Proofs.Ytkjmlpdbnnmlhaa.ordC Go.Proofs.Ytkjmlpdbnnmlhaa.tourC Go.Proofs.Ytkjmlpdbnnmlhaa.tourS

/-- append, told apart: the walk is not to lay it open. -/
def appS (ats : Array TypeId) (ty : TypeId) (args : Array Value) : Sem Value := Builtin.append_ ats ty args
theorem app_stop (ats : Array TypeId) (ty : TypeId) (args : Array Value) : Builtin.append_ ats ty args = appS ats ty args := rfl
theorem row_slice {W : World} {base : Nat} {e : TypeId} {size : Nat} {v : Value} {k : Nat} {xs : List Value} (h : W.ownsRow base e size v k xs) : ∃ A c, v = .slice A k c := by
  rcases h.2 with ⟨rfl, rfl⟩ | ⟨g, cap, _, rfl, _⟩
  · exact ⟨_, _, rfl⟩
  · exact ⟨_, _, rfl⟩
/-- One number more. -/
theorem app_v {base : Nat} {W w5 : World} {A : Option Addr} {cap k : Nat} {xs : List Int} (x : Int) (i0 : TypeInfo) (hi0 : Try.prog.info? 2 = some i0) (hz0 : i0.zero = some (.int .i64 0)) (hz1 : i0.size = 1) (hz2 : i0.bytes = 8)
    (hb : base ≤ W.heap.size) (h2 : W.ownsRow base 2 1 (.slice A k cap) k (ints xs)) (hk : k < 100000) (gd : W.grownBy w5 none) :
    ∃ A6 c6 w6, (appS #[50, 50] 50 #[.slice A k cap, .slice (some ⟨w5.heap.size, 0, none⟩) 1 1]).run Try.prog (w5.alloc (.cells #[.int .i64 x] 2)) = .ok (.slice A6 (k + 1) c6) w6 ∧
      w6.ownsRow base 2 1 (.slice A6 (k + 1) c6) (k + 1) (ints (xs ++ [x])) ∧ (w5.alloc (.cells #[.int .i64 x] 2)).grownBy w6 (A.map Addr.block) := by
  have b2 := own_kept0 h2 gd
  have hs5 := Nat.le_trans hb gd.size
  obtain ⟨v6, w6, hrun, r1, r2, _⟩ := run_append_own (P := Try.prog) (w5.alloc (.cells #[.int .i64 x] 2)) base 50 50 2 i0 (.int .i64 0) 1 8 Try.underlying50 hi0 hz0 hz1 hz2 rfl (by decide) _ _ _ (b2.alloc _) ⟨w5.heap.size, 0, none⟩ 1 1 [.int .i64 x] rfl (cell_one_new _ _ _) (by simp [Value.oneCell']) (by unfold maxLen; omega) (by omega) (by simp; omega)
  obtain ⟨A6, c6, rfl⟩ := row_slice r1
  rw [slc.ints_snoc] at r1
  rw [own_blk] at r2
  exact ⟨A6, c6, w6, hrun, r1, r2⟩
theorem infoI : (Try.prog.info? 2).map (fun i => (i.zero, i.size, i.bytes)) = some (some (.int .i64 0), 1, 8) := by kernel_rfl

/-- The first k are in their range, each once. -/
def GoodP (xs : List Int) (n k : Nat) : Prop := (∀ i (h : i < xs.length), i < k → 0 ≤ xs[i] ∧ xs[i] ≤ (n : Int) - 1) ∧ (xs.take k).Nodup
theorem GoodP.zero (xs : List Int) (n : Nat) : GoodP xs n 0 := ⟨fun i _ h => absurd h (by omega), by simp⟩
theorem GoodP.succ {xs : List Int} {n k : Nat} (h : GoodP xs n k) (hk : k < xs.length) (h1 : 0 ≤ xs[k]) (h2 : xs[k] ≤ (n : Int) - 1) (h3 : xs[k] ∉ xs.take k) : GoodP xs n (k + 1) := by
  refine ⟨fun i hi hlt => ?_, ?_⟩
  · by_cases e : i = k
    · subst e; exact ⟨h1, h2⟩
    · exact h.1 i hi (by omega)
  · rw [List.take_succ_eq_append_getElem hk, List.nodup_append]
    refine ⟨h.2, by simp, fun a ha b hb => ?_⟩
    rw [List.mem_singleton] at hb
    subst hb
    rintro rfl
    exact h3 ha
theorem GoodP.all {xs : List Int} {n : Nat} (h : GoodP xs n xs.length) (hl : xs.length = n) : ordB xs n = true := by
  refine decide_eq_true ⟨hl, fun x hx => ?_, by have := h.2; rwa [List.take_length] at this⟩
  obtain ⟨i, hi, rfl⟩ := List.mem_iff_getElem.1 hx
  exact h.1 i hi hi
theorem ord_out {xs : List Int} {n k : Nat} (hk : k < xs.length) (h : xs[k] < 0 ∨ (n : Int) - 1 < xs[k]) : ordB xs n = false :=
  decide_eq_false fun h' => by have := h'.2.1 _ (List.getElem_mem hk); omega
theorem ord_twice {xs : List Int} {n k : Nat} (hk : k < xs.length) (h : xs[k] ∈ xs.take k) : ordB xs n = false :=
  decide_eq_false fun h' => by
    have h2 : (xs.take (k + 1)).Nodup := h'.2.2.sublist (List.take_sublist _ _)
    rw [List.take_succ_eq_append_getElem hk, List.nodup_append] at h2
    exact h2.2.2 _ h _ (List.mem_singleton.2 rfl) rfl
theorem tt_no {ds : List (Int × Int)} {xs : List Int} (h : ordB xs ds.length = false) : TT ds xs = (0, false) := by unfold TT; rw [if_neg (by simp [h])]

section
attribute [local go_sem ↓] app_stop
set_option maxHeartbeats 3200000 in
set_option maxRecDepth 100000 in
theorem tour_spec (A : Option Addr) (c : Nat) (A' : Option Addr) (c' B : Nat) (ds : List (Int × Int)) (xs : List Int) (w : World) (hm : ds.length ≤ 9223372036854775807) (hm' : xs.length ≤ 9223372036854775807) (hr : Rd w B A (ds.length * 2) (pcell ds)) (hr' : Rd w B A' xs.length (fun j => (ints xs).getD j undef)) (hB : B ≤ w.heap.size) :
    Calls Try.prog 50 #[.slice A ds.length c, .slice A' xs.length c'] w fun e w' => e = .returned (.tuple #[.int .i64 (TT ds xs).1, .bool (TT ds xs).2]) ∧ w.grownBy w' none := by
  have HA0 := dirs_spec A c B ds w hm hr hB
  cases ha : db ds
  · rw [show TT ds xs = (0, false) by unfold TT; rw [if_neg (by simp [ha])]]
    rw [ha] at HA0
    have HA := Lib.hid HA0
    clear HA0 hr hr' ha
    go_enter Try.func50, Try.ntmps50
    go_wp2_with fail
    refine HA.out.mono ?_
    rintro e w1 ⟨rfl, g1⟩
    go_wp2_with fail
    exact bodyPost_ret (v := .tuple #[.int .i64 0, .bool false]) (by simp [results, Try.results50, go_sem]) rfl ⟨rfl, g1⟩
  · rw [ha] at HA0
    have HA := Lib.hid HA0
    obtain ⟨l1, l7⟩ := db_len ha
    by_cases hl : xs.length = ds.length
    · have HLE := Lib.hid hl
      have HR' := Lib.hid (fun (w' : World) (hg : w.grownBy w' none) => hr'.kept0 hg hB)
      have HTK := Lib.hid (fun (ho : ordB xs ds.length = true) (w' : World) (hg : w.grownBy w' none) => ticks_c A c A' c' B ds xs w' (OOk.of ha ho) (hr.kept0 hg hB) (hr'.kept0 hg hB) (Nat.le_trans hB hg.size))
      have HYES := Lib.hid (fun (ho : ordB xs ds.length = true) => show TT ds xs = (pim ds xs xs.length, true) by unfold TT; rw [if_pos ⟨ha, ho⟩])
      have hlz : (xs.length : Int) = (ds.length : Int) := by omega
      obtain ⟨i0, hi0, hz0, hz1, hz2⟩ := info_parts infoI
      clear HA0 hr hr' ha hl
      go_enter Try.func50, Try.ntmps50
      go_wp2_with fail
      refine HA.out.mono ?_
      rintro e w1 ⟨rfl, g1⟩
      have HG1 := Lib.hid g1
      have HST := Lib.hid (World.ownsRow_lit (base := w1.heap.size) (e := 2) (size := 1) w1 #[] 0 (Nat.le_refl _) (Nat.zero_le _) rfl)
      clear g1
      go_wp2_with fail
      go_loopw [6, 21] (fun v i wr => ∃ k : Nat, k ≤ xs.length ∧ i = .int .i64 k ∧ (∃ O d, v = .slice O k d ∧ wr.ownsRow w1.heap.size 2 1 (.slice O k d) k (ints (xs.take k))) ∧ GoodP xs ds.length k ∧ w1.grownBy wr none) (fun _ i _ => xs.length - (intOf i).toNat)
      case atStart => exact ⟨0, Nat.zero_le _, rfl, ⟨_, _, rfl, HST.out⟩, GoodP.zero _ _, World.grownBy_alloc _ _ _⟩
      case round =>
        obtain ⟨k, hkn, rfl, ⟨O, d, rfl, hou⟩, hgo, hg⟩ := hrel
        by_cases hlt : k < xs.length
        · obtain ⟨ad, rfl, _, hxc⟩ := (HR'.out wr (HG1.out.trans hg)).at_ hlt
          rw [ints_getD xs k hlt] at hxc
          have k0 : (0 : Int) ≤ (k : Int) := by omega
          have k1 : (k : Int) < (xs.length : Int) := by omega
          by_cases hin : xs[k] < 0 ∨ (ds.length : Int) - 1 < xs[k]
          · have HNO := Lib.hid (tt_no (ds := ds) (ord_out hlt hin))
            have HIN := Lib.hid hin
            have HG := Lib.hid (HG1.out.trans hg)
            clear hin hou hgo hg
            generalize xs[k] = x at *
            go_wp2_with fail
            refine (in_no _ _ _ _ HIN.out).mono ?_
            rintro e w' ⟨rfl, rfl⟩
            go_wp2_with fail
            rw [HNO.out]
            exact bodyPost_ret (v := .tuple #[.int .i64 0, .bool false]) (by simp [results, Try.results50, go_sem]) rfl ⟨rfl, HG.out⟩
          · have i1 : 0 ≤ xs[k] := by omega
            have i2 : xs[k] ≤ (ds.length : Int) - 1 := by omega
            have hlen : (xs.take k).length = k := by rw [List.length_take]; omega
            have hrd := Rd.of_own hou (Nat.mul_one _).symm
            have HC0 := has_c O d wr.heap.size (xs.take k) xs[k] wr (by omega) (by rw [hlen]; exact hrd)
            rw [hlen] at HC0
            cases hd : decide (xs[k] ∈ xs.take k)
            · rw [hd] at HC0
              have HC := Lib.hid HC0
              have HGO := Lib.hid (hgo.succ hlt i1 i2 (of_decide_eq_false hd))
              have hs1 := hg.size
              obtain ⟨A6, c6, w6, hrun, z1, z2⟩ := app_v xs[k] i0 hi0 hz0 hz1 hz2 hs1 hou (by omega) (World.grownBy.refl wr none)
              have hab := own_base hou
              rw [← List.take_succ_eq_append_getElem hlt] at z1
              have ZZ := Lib.hid (And.intro z1 (gb_new (hg.trans (World.grownBy_alloc wr (.cells #[.int .i64 xs[k]] 2) none)) z2 (fun g e => (hab g e).1)))
              clear hin hou hgo hg hd hrd HC0 z1 z2 hab hlen
              generalize xs[k] = x at *
              go_wp2_with fail
              refine (in_yes _ _ _ _ i1 i2).mono ?_
              rintro e w' ⟨rfl, rfl⟩
              go_wp2_with fail
              refine HC.out.mono ?_
              rintro e w' ⟨rfl, rfl⟩
              go_wp2_with fail
              go_roundw
              case rel => exact ⟨k + 1, by omega, by go_num, ⟨_, _, rfl, ZZ.out.1⟩, HGO.out, ZZ.out.2⟩
              case measure => simp [intOf]; omega
            · rw [hd] at HC0
              have HC := Lib.hid HC0
              have HNO := Lib.hid (tt_no (ds := ds) (ord_twice hlt (of_decide_eq_true hd)))
              have HG := Lib.hid (HG1.out.trans hg)
              clear hin hou hgo hg hd hrd HC0 hlen
              generalize xs[k] = x at *
              go_wp2_with fail
              refine (in_yes _ _ _ _ i1 i2).mono ?_
              rintro e w' ⟨rfl, rfl⟩
              go_wp2_with fail
              refine HC.out.mono ?_
              rintro e w' ⟨rfl, rfl⟩
              go_wp2_with fail
              rw [HNO.out]
              exact bodyPost_ret (v := .tuple #[.int .i64 0, .bool false]) (by simp [results, Try.results50, go_sem]) rfl ⟨rfl, HG.out⟩
        · obtain rfl : k = xs.length := by omega
          have ho := hgo.all HLE.out
          have HG := Lib.hid (HG1.out.trans hg)
          have HT := Lib.hid (HTK.out ho _ (HG1.out.trans hg))
          have HY := Lib.hid (HYES.out ho)
          clear hou hgo hg ho
          go_wp2_with fail
          refine HT.out.mono ?_
          rintro e w2 ⟨rfl, g2⟩
          go_wp2_with fail
          rw [HY.out]
          exact bodyPost_ret (v := .tuple #[.int .i64 (pim ds xs xs.length), .bool true]) (by simp [results, Try.results50, go_sem]) rfl ⟨rfl, HG.out.trans g2⟩
    · have hlz : ¬ (xs.length : Int) = (ds.length : Int) := by omega
      have HNO := Lib.hid (tt_no (ds := ds) (xs := xs) (decide_eq_false fun h => hl h.1))
      clear HA0 hr hr' ha
      rw [HNO.out]
      go_enter Try.func50, Try.ntmps50
      go_wp2_with fail
      refine HA.out.mono ?_
      rintro e w1 ⟨rfl, g1⟩
      go_wp2_with fail
      exact bodyPost_ret (v := .tuple #[.int .i64 0, .bool false]) (by simp [results, Try.results50, go_sem]) rfl ⟨rfl, g1⟩
end

end Go.Proofs.Ytkjmlpdbnnmlhaa.tourQ
