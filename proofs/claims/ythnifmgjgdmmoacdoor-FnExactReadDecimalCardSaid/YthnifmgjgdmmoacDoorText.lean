/- ListText, by the model. -/
import Derived.Test.YthnifmgjgdmmoacDoorRows
import Derived.Test.YthnifmgjgdmmoacDoorSlc
import Derived.Test.YthnifmgjgdmmoacDoorSmall
import Derived.Test.YthnifmgjgdmmoacDoorListI
import Derived.Test.YthnifmgjgdmmoacDoorDecNum
import Derived.Test.YthnifmgjgdmmoacDoorDec
import Derived.Test.YthnifmgjgdmmoacDoorFmt
import Derived.Test.YthnifmgjgdmmoacDoorDecI
import Derived.Test.YthnifmgjgdmmoacDoorTextNum
import Derived.WalkKit
import Derived.ProofKit
import Derived.OpenShut
import Derived.ShutString
import Derived.ChangeOld
import Derived.Below
import Derived.Lib.Hide
import Derived.BigQuiet
import Derived.Deep.QuietTactic
import Derived.WalkLawsBesides
import Derived.Outline
import Derived.Deep.LoopGhost
import Derived.Lib.Join
import Derived.Deep.QuietTactic
import Derived.BigQuiet
namespace Go.Proofs.YthnifmgjgdmmoacDoor.text
open Go.ChangeShapes Go.WideShapes Go.ChangeAt Go.RowKit
open Go.ChangeMaps (open_string shut_string)
set_option linter.unusedVariables false
open Go Go.RowKit
open Go.Proofs.YthnifmgjgdmmoacDoor.slc Go.Proofs.YthnifmgjgdmmoacDoor.small Go.Proofs.YthnifmgjgdmmoacDoor.listI Go.Proofs.YthnifmgjgdmmoacDoor.dec Go.Proofs.YthnifmgjgdmmoacDoor.decI Go.Proofs.YthnifmgjgdmmoacDoor.textNum

/-- The cells of a list of integers. -/
def cls (xs : List Int) (j : Nat) : Value := .int .i64 (xs.getD j 0)
theorem cls_at {w : World} {B : Nat} {A : Option Addr} {xs : List Int} (h : Rd w B A xs.length (cls xs)) (k : Nat) (hk : k < xs.length) : ∃ ad, A = some ad ∧ w.cell? (ad.add k) = some (.int .i64 xs[k]) := by
  obtain ⟨ad, e, _, hc⟩ := h.at_ hk
  refine ⟨ad, e, ?_⟩
  rw [hc]; simp [cls, List.getD, hk]

set_option maxHeartbeats 400000 in
theorem list_spec (A : Option Addr) (c B : Nat) (xs : List Int) (w : World) (hm : xs.length ≤ 9223372036854775806) (hB : B ≤ w.heap.size) (hr : Rd w B A xs.length (cls xs)) :
    Calls Tryd.prog 34 #[.slice A xs.length c] w fun e w' => e = .returned (.bool (decide (xs.length ≤ 64 ∧ okL xs = true))) ∧ w.grownBy w' none := by
  go_enter Tryd.func34, Tryd.ntmps34
  go_wp2
  go_loopw [3] (fun i wr => ∃ k : Nat, k ≤ xs.length ∧ i = .int .i64 k ∧ okL (xs.take k) = true ∧ w.grownBy wr none) (fun i _ => xs.length - (intOf i).toNat)
  case atStart => exact ⟨0, Nat.zero_le _, rfl, rfl, World.grownBy.refl _ _⟩
  case round =>
    obtain ⟨k, hk, rfl, hok, hg⟩ := hrel
    by_cases hlt : k < xs.length
    · obtain ⟨ad, rfl, hc⟩ := cls_at (hr.kept0 hg hB) k hlt
      have hk0 : (0 : Int) ≤ k := by omega
      have hk1 : (k : Int) < xs.length := by omega
      cases ho : okN xs[k]
      · have hbad := okL_bad k hlt ho
        have hno := okN_no ho
        have HB := Lib.hid hbad
        clear hbad ho hok
        generalize xs[k] = n at *
        go_wp2_with fail
        refine (in_no _ _ _ _ hno).mono ?_
        rintro e w' ⟨rfl, rfl⟩
        go_wp2_with fail
        go_ret
        exact ⟨by rw [HB.out]; simp, hg⟩
      · have hok2 : okL (xs.take (k + 1)) = true := by
          rw [take_snoc xs k hlt]; unfold okL at hok ⊢; rw [List.all_append, hok]; simp [ho]
        obtain ⟨y1, y2⟩ := okN_yes ho
        have HO := Lib.hid hok2
        clear hok2 ho hok
        generalize xs[k] = n at *
        go_wp2_with fail
        refine (in_yes _ _ _ _ y1 y2).mono ?_
        rintro e w' ⟨rfl, rfl⟩
        go_wp2_with fail
        go_roundw
        case rel => exact ⟨k + 1, by omega, by go_num, HO.out, hg⟩
        case measure => simp [intOf]; omega
    · obtain rfl : k = xs.length := by omega
      rw [List.take_length] at hok
      have HO := Lib.hid hok
      clear hok
      go_wp2
      go_ret
      exact ⟨by rw [HO.out]; simp; omega, hg⟩

set_option maxHeartbeats 800000 in
theorem text_spec (A : Option Addr) (c B : Nat) (xs : List Int) (w : World) (h1 : 1 ≤ xs.length) (h64 : xs.length ≤ 64) (hok : okL xs = true) (hB : B ≤ w.heap.size) (hr : Rd w B A xs.length (cls xs)) :
    Calls Tryd.prog 35 #[.slice A xs.length c] w fun e w' => e = .returned (.string ⟨(tx xs).toArray⟩) ∧ w.grownBy w' none := by
  obtain ⟨ad, rfl, hc0⟩ := cls_at hr 0 h1
  have ho0 := okN_yes (okL_at hok 0 h1)
  have hd := fun w => dec_spec xs[0] w (by omega) (by omega)
  have h1' : (1 : Int) ≤ xs.length := by omega
  have hne : ((xs.length : Int) == 0) = false := by rw [beq_eq_false_iff_ne]; omega
  have HD := Lib.hid hd
  have HOK := Lib.hid hok
  have hz : ad.add 0 = ad := by simp [Addr.add]
  rw [hz] at hc0
  clear hd hok ho0 hz
  go_enter Tryd.func35, Tryd.ntmps35
  go_wp2_with fail
  refine (HD.out _).mono ?_
  rintro e w1 ⟨rfl, hg1⟩
  go_wp2_with fail
  go_loopw [3, 4] (fun s i wr => ∃ k : Nat, 1 ≤ k ∧ k ≤ xs.length ∧ i = .int .i64 k ∧ s = .string ⟨(tx (xs.take k)).toArray⟩ ∧ w.grownBy wr none) (fun _ i _ => xs.length - (intOf i).toNat)
  case atStart =>
    refine ⟨1, Nat.le_refl _, h1, rfl, ?_, hg1⟩
    rw [take_snoc xs 0 h1, List.take_zero, List.nil_append, tx_one]
  case round =>
    clear hg1
    obtain ⟨k, hk1, hk, rfl, rfl, hg⟩ := hrel
    by_cases hlt : k < xs.length
    · obtain ⟨ad', e, hc⟩ := cls_at (hr.kept0 hg hB) k hlt
      injection e with e
      subst e
      have q0 : (0 : Int) ≤ k := by omega
      have q1 : (k : Int) < xs.length := by omega
      have ho := okN_yes (okL_at HOK.out k hlt)
      have hd := fun w => dec_spec xs[k] w (by omega) (by omega)
      have hsn := tx_snoc (xs.take k) xs[k] (by intro e; have h5 := congrArg List.length e; rw [List.length_take, List.length_nil] at h5; omega)
      rw [← take_snoc xs k hlt] at hsn
      have hl1 : (tx (xs.take k)).length ≤ 2000 := by
        have := tx_len xs HOK.out (k - 1) (by omega)
        rw [show k - 1 + 1 = k from by omega] at this
        omega
      have hl2 := itoa_len xs[k] (by omega) (by omega)
      have HD := Lib.hid hd
      have HSN := Lib.hid hsn
      clear hd hsn ho
      generalize xs[k] = n at *
      generalize tx (xs.take k) = T at *
      go_wp2_with fail
      refine (HD.out _).mono ?_
      rintro e w2 ⟨rfl, hg2⟩
      go_wp2_with fail
      go_roundw
      case rel => exact ⟨k + 1, by omega, by omega, by go_num, by rw [HSN.out]; rfl, hg.trans hg2⟩
      case measure => simp [intOf]; omega
    · obtain rfl : k = xs.length := by omega
      rw [List.take_length]
      go_wp2
      go_ret
      exact ⟨rfl, hg⟩

end Go.Proofs.YthnifmgjgdmmoacDoor.text
