/- Valid lists of directions, by the program and the model. -/
import Derived.Test.YtmemclcoegmjjaaRows
import Derived.Test.YtmemclcoegmjjaaSlc
import Derived.Test.YtmemclcoegmjjaaSmall
import Derived.Test.YtmemclcoegmjjaaOpens
import Derived.Test.YtmemclcoegmjjaaPlanNum
import Derived.Test.YtmemclcoegmjjaaBeamsOk
import Derived.Test.YtmemclcoegmjjaaListDir
import Derived.WalkKit
import Derived.ProofKit
import Derived.OpenShut
import Derived.ShutString
import Derived.ChangeOld
import Derived.Below
import Derived.Lib.Hide
import Derived.BigQuiet
import Derived.Deep.QuietTactic
import Derived.WalkLawsBesides
import Derived.Outline
import Derived.Deep.QuietTactic
import Derived.BigQuiet
import Derived.Deep.LoopGhost
namespace Go.Proofs.Ytmemclcoegmjjaa.dirsOk
open Go.ChangeShapes Go.WideShapes Go.ChangeAt Go.RowKit
open Go.ChangeMaps (open_string shut_string)
set_option linter.unusedVariables false
open Go Go.RowKit
open Go.Proofs.Ytmemclcoegmjjaa.slc Go.Proofs.Ytmemclcoegmjjaa.small Go.Proofs.Ytmemclcoegmjjaa.opens Go.Proofs.Ytmemclcoegmjjaa.planNum Go.Proofs.Ytmemclcoegmjjaa.beamsOk

def dg (ds : List (Int × Int)) (k : Nat) : Int × Int := ds.getD k (0, 0)
theorem Rd.dir {w : World} {B : Nat} {A : Option Addr} {ds : List (Int × Int)} (h : Rd w B A (ds.length * 2) (pcell ds)) {k : Nat} (hk : k < ds.length) :
    ∃ ad x y, A = some ad ∧ ad.block < B ∧ dg ds k = (x, y) ∧ w.cell? (ad.add (k * 2)) = some (.int .i64 x) ∧ w.cell? ⟨(ad.add (k * 2)).block, (ad.add (k * 2)).off + 1, none⟩ = some (.int .i64 y) := by
  obtain ⟨ad, x, y, e, hb, hx, hy, hc, hd⟩ := Go.Proofs.Ytmemclcoegmjjaa.listDir.Rd.two h (pcell_ints ds _) hk
  refine ⟨ad, x, y, e, hb, ?_, hc, hd⟩
  unfold pcell at hx hy
  rw [if_pos (by omega)] at hx
  rw [if_neg (by omega)] at hy
  injection hx with _ hx
  injection hy with _ hy
  rw [show k * 2 / 2 = k by omega] at hx
  rw [show (k * 2 + 1) / 2 = k by omega] at hy
  exact Prod.ext hx hy
def Dok (ds : List (Int × Int)) (k : Nat) : Prop := ∀ j, j < k → dirB (dg ds j).1 (dg ds j).2 = true
theorem Dok.zero (ds : List (Int × Int)) : Dok ds 0 := fun j h => absurd h (by omega)
theorem Dok.succ {ds : List (Int × Int)} {k : Nat} (h : Dok ds k) (hk : dirB (dg ds k).1 (dg ds k).2 = true) : Dok ds (k + 1) := fun j hj => by
  rcases Nat.lt_succ_iff_lt_or_eq.1 hj with h' | rfl
  · exact h j h'
  · exact hk
/-- Directions are valid. -/
def db (ds : List (Int × Int)) : Bool := decide (1 ≤ ds.length ∧ ds.length ≤ 7) && ds.all fun d => dirB d.1 d.2
theorem dg_at (ds : List (Int × Int)) {k : Nat} (hk : k < ds.length) : dg ds k = ds[k] := by simp [dg, List.getD, hk]
theorem db_bad {ds : List (Int × Int)} {k : Nat} (hk : k < ds.length) (h : dirB (dg ds k).1 (dg ds k).2 = false) : db ds = false := by
  unfold db
  rw [dg_at ds hk] at h
  have : (ds.all fun d => dirB d.1 d.2) = false := by
    rw [List.all_eq_false]
    exact ⟨ds[k], List.getElem_mem hk, by rw [h]; simp⟩
  rw [this, Bool.and_false]
theorem db_all {ds : List (Int × Int)} (h : Dok ds ds.length) : db ds = decide (1 ≤ ds.length ∧ ds.length ≤ 7) := by
  unfold db
  have : (ds.all fun d => dirB d.1 d.2) = true := by
    rw [List.all_eq_true]
    intro x hx
    obtain ⟨k, hk, rfl⟩ := List.mem_iff_getElem.1 hx
    have := h k hk
    rwa [dg_at ds hk] at this
  rw [this, Bool.and_true]
theorem db_short {ds : List (Int × Int)} (h : ¬ (1 ≤ ds.length ∧ ds.length ≤ 7)) : db ds = false := by unfold db; rw [decide_eq_false h]; rfl
theorem db_len {ds : List (Int × Int)} (h : db ds = true) : 1 ≤ ds.length ∧ ds.length ≤ 7 := by
  unfold db at h
  rw [Bool.and_eq_true] at h
  exact of_decide_eq_true h.1
theorem db_at {ds : List (Int × Int)} (h : db ds = true) {k : Nat} (hk : k < ds.length) : Bd (dg ds k).1 (dg ds k).2 := by
  unfold db at h
  rw [Bool.and_eq_true, List.all_eq_true] at h
  rw [dg_at ds hk]
  exact dir_bd (h.2 _ (List.getElem_mem hk))

set_option maxHeartbeats 800000 in
set_option maxRecDepth 100000 in
theorem dirs_impl (A : Option Addr) (c B : Nat) (ds : List (Int × Int)) (w : World) (hm : ds.length ≤ 9223372036854775807) (hr : Rd w B A (ds.length * 2) (pcell ds)) (hB : B ≤ w.heap.size) :
    Calls Try.prog 100 #[.slice A ds.length c] w fun e w' => e = .returned (.bool (db ds)) ∧ w.grownBy w' none := by
  by_cases hl : 1 ≤ ds.length ∧ ds.length ≤ 7
  · obtain ⟨l1, l7⟩ := hl
    go_enter Try.func100, Try.ntmps100
    go_wp2_with fail
    refine (count_yes _ _ l1 l7).mono ?_
    rintro e w' ⟨rfl, rfl⟩
    go_wp2_with fail
    go_loopw [11] (fun i wr => ∃ k : Nat, k ≤ ds.length ∧ i = .int .i64 k ∧ Dok ds k ∧ w.grownBy wr none) (fun i _ => ds.length - (intOf i).toNat)
    case atStart => exact ⟨0, Nat.zero_le _, rfl, Dok.zero _, World.grownBy.refl _ _⟩
    case round =>
      obtain ⟨k, hk, rfl, hpre, hg⟩ := hrel
      by_cases hlt : k < ds.length
      · obtain ⟨ad, u, v, rfl, _, hx, hc0, hc1⟩ := Rd.dir (hr.kept0 hg hB) hlt
        have HPR := Lib.hid hpre
        have HX := Lib.hid hx
        have HG := Lib.hid hg
        clear hpre hx hg
        go_wp2_with fail
        refine (dir_impl _ _ _).mono ?_
        rintro e w1 ⟨rfl, hg1⟩
        have HG1 := Lib.hid (HG.out.trans ((World.grownBy_alloc _ _ none).trans hg1))
        clear hc0 hc1 hg1
        cases hd : dirB u v
        · have HV := Lib.hid (db_bad hlt (by rw [HX.out]; exact hd))
          clear hd
          go_wp2_with fail
          go_ret
          exact ⟨ret_bool HV.out.symm, HG1.out⟩
        · have HU := Lib.hid (HPR.out.succ (by rw [HX.out]; exact hd))
          clear hd
          go_wp2_with fail
          go_roundw
          case rel => exact ⟨k + 1, by omega, by go_num, HU.out, HG1.out⟩
          case measure => simp [intOf]; omega
      · obtain rfl : k = ds.length := by omega
        have HV := Lib.hid ((db_all hpre).trans (decide_eq_true ⟨l1, l7⟩))
        clear hpre
        go_wp2_with fail
        go_ret
        exact ⟨ret_bool HV.out.symm, hg⟩
  · have HV := Lib.hid (db_short hl)
    have HL := Lib.hid hl
    clear hl
    go_enter Try.func100, Try.ntmps100
    go_wp2_with fail
    refine (count_no _ _ HL.out hm).mono ?_
    rintro e w' ⟨rfl, rfl⟩
    go_wp2_with fail
    go_ret
    exact ⟨ret_bool HV.out.symm, World.grownBy.refl _ _⟩

set_option maxHeartbeats 800000 in
set_option maxRecDepth 100000 in
theorem dirs_spec (A : Option Addr) (c B : Nat) (ds : List (Int × Int)) (w : World) (hm : ds.length ≤ 9223372036854775807) (hr : Rd w B A (ds.length * 2) (pcell ds)) (hB : B ≤ w.heap.size) :
    Calls Try.prog 127 #[.slice A ds.length c] w fun e w' => e = .returned (.bool (db ds)) ∧ w.grownBy w' none := by
  go_enter Try.func127, Try.ntmps127
  go_wp2_with fail
  go_loopw [6] (fun i wr => ∃ k : Nat, k ≤ ds.length ∧ i = .int .i64 k ∧ Dok ds k ∧ w.grownBy wr none) (fun i _ => ds.length - (intOf i).toNat)
  case atStart => exact ⟨0, Nat.zero_le _, rfl, Dok.zero _, World.grownBy.refl _ _⟩
  case round =>
    obtain ⟨k, hk, rfl, hpre, hg⟩ := hrel
    by_cases hlt : k < ds.length
    · obtain ⟨ad, u, v, rfl, _, hx, hc0, hc1⟩ := Rd.dir (hr.kept0 hg hB) hlt
      have HPR := Lib.hid hpre
      have HX := Lib.hid hx
      have HG := Lib.hid hg
      clear hpre hx hg
      go_wp2_with fail
      refine (dir_spec _ _ _).mono ?_
      rintro e w1 ⟨rfl, hg1⟩
      have HG1 := Lib.hid (HG.out.trans hg1)
      clear hc0 hc1 hg1
      cases hd : dirB u v
      · have HV := Lib.hid (db_bad hlt (by rw [HX.out]; exact hd))
        clear hd
        go_wp2_with fail
        go_ret
        exact ⟨ret_bool HV.out.symm, HG1.out⟩
      · have HU := Lib.hid (HPR.out.succ (by rw [HX.out]; exact hd))
        clear hd
        go_wp2_with fail
        go_roundw
        case rel => exact ⟨k + 1, by omega, by go_num, HU.out, HG1.out⟩
        case measure => simp [intOf]; omega
    · obtain rfl : k = ds.length := by omega
      have HV := Lib.hid (db_all hpre)
      clear hpre
      by_cases hl : 1 ≤ ds.length ∧ ds.length ≤ 7
      · have HW := Lib.hid (HV.out.trans (decide_eq_true hl))
        obtain ⟨l1, l7⟩ := hl
        go_wp2_with fail
        go_ret
        exact ⟨ret_bool (by first | (rw [HW.out]; done) | (rw [HW.out]; simp; done) | (rw [HW.out]; simp; omega)), hg⟩
      · have HW := Lib.hid (HV.out.trans (decide_eq_false hl))
        by_cases h0 : ds.length < 1
        · go_wp2_with fail
          go_ret
          exact ⟨ret_bool (by first | (rw [HW.out]; done) | (rw [HW.out]; simp; done) | (rw [HW.out]; simp; omega)), hg⟩
        · have h7 : 7 < ds.length := by omega
          clear hl
          go_wp2_with fail
          go_ret
          exact ⟨ret_bool (by first | (rw [HW.out]; done) | (rw [HW.out]; simp; done) | (rw [HW.out]; simp; omega)), hg⟩

end Go.Proofs.Ytmemclcoegmjjaa.dirsOk
