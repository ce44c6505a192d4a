/- ListText, by the program. -/
import Derived.Test.YthnifmgjgdmmoacDoorRows
import Derived.Test.YthnifmgjgdmmoacDoorSlc
import Derived.Test.YthnifmgjgdmmoacDoorSmall
import Derived.Test.YthnifmgjgdmmoacDoorListI
import Derived.Test.YthnifmgjgdmmoacDoorDecNum
import Derived.Test.YthnifmgjgdmmoacDoorDec
import Derived.Test.YthnifmgjgdmmoacDoorFmt
import Derived.Test.YthnifmgjgdmmoacDoorDecI
import Derived.Test.YthnifmgjgdmmoacDoorTextNum
import Derived.Test.YthnifmgjgdmmoacDoorText
import Derived.Test.YthnifmgjgdmmoacDoorJoinLaid
import Derived.WalkKit
import Derived.ProofKit
import Derived.OpenShut
import Derived.ShutString
import Derived.ChangeOld
import Derived.Below
import Derived.Lib.Hide
import Derived.BigQuiet
import Derived.Deep.QuietTactic
import Derived.WalkLawsBesides
import Derived.Outline
import Derived.Deep.LoopGhost
import Derived.Lib.Join
import Derived.Deep.QuietTactic
import Derived.BigQuiet
namespace Go.Proofs.YthnifmgjgdmmoacDoor.text2
open Go.ChangeShapes Go.WideShapes Go.ChangeAt Go.RowKit
open Go.ChangeMaps (open_string shut_string)
set_option linter.unusedVariables false
open Go Go.RowKit
open Go.Proofs.YthnifmgjgdmmoacDoor.slc Go.Proofs.YthnifmgjgdmmoacDoor.small Go.Proofs.YthnifmgjgdmmoacDoor.listI Go.Proofs.YthnifmgjgdmmoacDoor.dec Go.Proofs.YthnifmgjgdmmoacDoor.decI Go.Proofs.YthnifmgjgdmmoacDoor.textNum Go.Proofs.YthnifmgjgdmmoacDoor.text Go.Proofs.YthnifmgjgdmmoacDoor.joinLaid

theorem infoS : (Tryd.prog.info? 9).map (fun i => (i.zero, i.size, i.bytes)) = some (some (.string ByteArray.empty), 1, 16) := by kernel_rfl
theorem item_yes (n : Int) (w : World) (h : -1000000000000000 ≤ n) (h2 : n ≤ 1000000000000000) :
    Calls Tryd.prog 33 #[.int .i64 n] w fun e w' => e = .returned (.bool true) ∧ w = w' := by
  go_enter Tryd.func33, Tryd.ntmps33
  go_wp2
  go_ret
  simp_all
theorem item_no (n : Int) (w : World) (h : n < -1000000000000000 ∨ 1000000000000000 < n) :
    Calls Tryd.prog 33 #[.int .i64 n] w fun e w' => e = .returned (.bool false) ∧ w = w' := by
  by_cases hn : n < -1000000000000000
  · go_enter Tryd.func33, Tryd.ntmps33
    go_wp2
    go_ret
    simp_all
  · have h3 : 1000000000000000 < n := by omega
    clear h
    go_enter Tryd.func33, Tryd.ntmps33
    go_wp2
    go_ret
    simp_all

/-- The cells of the texts. -/
def stc (xs : List Int) (j : Nat) : Value := .string ⟨(Lib.itoa (xs.getD j 0)).toArray⟩
theorem run_store_str {P : Program} {w : World} {m : Mode} (a : Addr) (x : ByteArray) : (store a (.string x) m).run P w = stored P w a (.string x) m := run_store P w a _ m rfl
attribute [local go_sem] run_store_str

set_option maxHeartbeats 1000000 in
set_option maxRecDepth 100000 in
theorem text_impl (A : Option Addr) (c B : Nat) (xs : List Int) (w : World) (h1 : 1 ≤ xs.length) (h64 : xs.length ≤ 64) (hB : B ≤ w.heap.size) (hr : Rd w B A xs.length (cls xs)) (ht : TabW w) :
    Calls Tryd.prog 19 #[.slice A xs.length c] w fun e w' => e = .returned (.tuple #[.string ⟨(textT xs).1.toArray⟩, .bool (textT xs).2]) ∧ w.grownBy w' none := by
  obtain ⟨i0, hi0, hz0, hz1, hz2⟩ := info_parts infoS
  have h1' : (1 : Int) ≤ xs.length := by omega
  have h2' : (xs.length : Int) ≤ 64 := by omega
  have hne : ((xs.length : Int) == 0) = false := by rw [beq_eq_false_iff_ne]; omega
  obtain ⟨T0, b0, hT0⟩ : ∃ T b, textT xs = (T, b) := ⟨_, _, rfl⟩
  rw [hT0]
  have HT := Lib.hid hT0
  clear hT0
  go_enter Tryd.func19, Tryd.ntmps19
  go_wp2_with (at_make; refine wpList_make_full _ rfl _ _ _ rfl w.heap.size 9 i0 (.string ByteArray.empty) 1 Tryd.underlying41 hi0 hz0 hz1 _ _ _ _ xs.length rfl rfl rfl rfl (by rw [hz2]; omega) (by unfold maxLen; omega) (Nat.le_refl _) ?_; intro w1 hown hg)
  go_loopw [18] (fun i wr => ∃ j : Nat, j ≤ xs.length ∧ i = .int .i64 j ∧ okL (xs.take j) = true ∧ wr.ownsRow w.heap.size 9 1 (.slice (some ⟨w.heap.size, 0, none⟩) xs.length xs.length) xs.length (lst (mix (stc xs) (fun _ => .string ByteArray.empty) j) xs.length) ∧ w.grownBy wr none) (fun i _ => xs.length - (intOf i).toNat)
  case atStart =>
    refine ⟨0, Nat.zero_le _, rfl, rfl, ?_, hg⟩
    rw [mix_zero, ← replicate_lst]
    rw [Nat.mul_one] at hown
    exact (toList_madeCells_one (.string ByteArray.empty) xs.length) ▸ hown
  case round =>
    obtain ⟨k, hk, rfl, hok, hown, hg⟩ := hrel
    by_cases hlt : k < xs.length
    · obtain ⟨ad, rfl, hc⟩ := cls_at (hr.kept0 hg hB) k hlt
      have hk0 : (0 : Int) ≤ k := by omega
      have hk1 : (k : Int) < xs.length := by omega
      cases ho : okN xs[k]
      · have hbad := okL_bad k hlt ho
        have hno := okN_no ho
        have hT : textT xs = ([], false) := by unfold textT; rw [if_neg (by rw [hbad]; simp)]
        obtain ⟨rfl, rfl⟩ : T0 = [] ∧ b0 = false := by rw [HT.out] at hT; injection hT with h1 h2; exact ⟨h1, h2⟩
        clear HT
        have HG := Lib.hid hg
        clear hbad ho hok hT hown hg
        generalize xs[k] = n at *
        go_wp2_with fail
        refine (item_no _ _ hno).mono ?_
        rintro e w' ⟨rfl, rfl⟩
        go_wp2_with fail
        go_ret2
        exact ⟨rfl, HG.out⟩
      · have hok2 : okL (xs.take (k + 1)) = true := by
          rw [take_snoc xs k hlt]; unfold okL at hok ⊢; rw [List.all_append, hok]; simp [ho]
        obtain ⟨y1, y2⟩ := okN_yes ho
        have hst : stc xs k = .string ⟨(Lib.itoa xs[k]).toArray⟩ := by simp [stc, List.getD, hlt]
        have HO := Lib.hid hok2
        have HS := Lib.hid hst
        have HW := Lib.hid hown
        have HG := Lib.hid hg
        clear hok2 ho hok hst hown hg
        generalize xs[k] = n at *
        go_wp2_with fail
        refine (item_yes _ _ y1 y2).mono ?_
        rintro e w' ⟨rfl, rfl⟩
        go_wp2_with fail
        refine (dec_impl _ _ (by omega) (by omega) (ht.kept HG.out)).mono ?_
        rintro e w2 ⟨rfl, hg2⟩
        have hown := own_kept0 HW.out hg2
        have hg := HG.out.trans hg2
        have hcell := hown.cellAt k (by omega)
        rw [lst_get _ _ _ hlt] at hcell
        have hf := hown.frozenAt k
        obtain ⟨hs1, hs2⟩ := hown.stored k (stc xs k)
        rw [mix_set _ _ _ _ hlt] at hs1
        rw [HS.out] at hs1 hs2
        have hs2' := gb_new hg hs2 (by intro g e; injection e with e; omega)
        have H1 := Lib.hid hs1
        have H2 := Lib.hid hs2'
        clear hs1 hs2 hs2' hown hg hg2
        go_wp2_with fail
        go_roundw
        case rel => exact ⟨k + 1, by omega, by go_num, HO.out, H1.out, H2.out⟩
        case measure => simp [intOf]; omega
    · obtain rfl : k = xs.length := by omega
      rw [List.take_length] at hok
      rw [mix_full] at hown
      have hT : textT xs = (tx xs, true) := by unfold textT; rw [if_pos ⟨h64, hok⟩, if_neg (by intro e; rw [e] at h1; simp at h1)]
      obtain ⟨hTx, rfl⟩ : tx xs = T0 ∧ b0 = true := by rw [HT.out] at hT; injection hT with h1 h2; exact ⟨h1.symm, h2⟩
      clear HT
      have hlen := tx_len xs hok (xs.length - 1) (by omega)
      rw [show xs.length - 1 + 1 = xs.length from by omega, List.take_length] at hlen
      have hmap : (xs.map fun x => (⟨(Lib.itoa x).toArray⟩ : ByteArray)).map (·.data.toList) = xs.map Lib.itoa := by rw [List.map_map]; exact List.map_congr_left fun x _ => by simp
      have hj := strings_Join w.heap.size 0 xs.length (xs.map fun x => (⟨(Lib.itoa x).toArray⟩ : ByteArray)) ⟨#[44]⟩ wr (fun j x hj => by
        rw [List.getElem?_map, Option.map_eq_some_iff] at hj
        obtain ⟨y, hy, rfl⟩ := hj
        have hjl : j < xs.length := (List.getElem?_eq_some_iff.1 hy).1
        have h := hown.cells (g := w.heap.size) rfl j (stc xs j) (by rw [lst_get _ _ _ hjl])
        rw [Nat.zero_add]
        rw [slc.add_plain, Nat.zero_add] at h
        rw [h]
        have : xs[j] = y := (List.getElem?_eq_some_iff.1 hy).2
        simp [stc, List.getD, hjl, this]) (own_base hown _ rfl).2 (by simp; omega) (by simp) (by rw [hmap]; show (tx xs).length ≤ _; omega)
      rw [hmap, List.length_map] at hj
      have hj2 : Calls Tryd.prog 36 #[.slice (some ⟨w.heap.size, 0, none⟩) xs.length xs.length, .string ⟨#[44]⟩] wr fun e w' => e = .returned (.string ⟨(tx xs).toArray⟩) ∧ Below wr.heap.size wr w' := hj
      rw [hTx] at hj2
      have HJ := Lib.hid hj2
      have HG := Lib.hid hg
      clear hj hj2 hmap hlen hT hok hown hg hTx
      go_wp2_with fail
      refine HJ.out.mono ?_
      rintro e w2 ⟨rfl, hb2⟩
      go_wp2_with fail
      go_ret2
      exact ⟨rfl, HG.out.trans (gb_of_below hb2)⟩

end Go.Proofs.YthnifmgjgdmmoacDoor.text2
