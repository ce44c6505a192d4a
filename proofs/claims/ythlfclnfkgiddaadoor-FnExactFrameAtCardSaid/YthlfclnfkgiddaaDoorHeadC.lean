/- The beginning of a record's bytes, by the program and the model. -/
import Derived.Test.YthlfclnfkgiddaaDoorRows
import Derived.Test.YthlfclnfkgiddaaDoorSlc
import Derived.Test.YthlfclnfkgiddaaDoorSmall
import Derived.Test.YthlfclnfkgiddaaDoorElemC
import Derived.WalkKit
import Derived.ProofKit
import Derived.OpenShut
import Derived.ShutString
import Derived.ChangeOld
import Derived.Below
import Derived.Lib.Hide
import Derived.BigQuiet
import Derived.Deep.QuietTactic
import Derived.WalkLawsBesides
import Derived.Outline
import Derived.Deep.QuietTactic
import Derived.BigQuiet
import Derived.Deep.LoopGhost
import Derived.Deep.RegionWith
import Derived.Deep.RegionHeld3
import Derived.Lib.Strings
namespace Go.Proofs.YthlfclnfkgiddaaDoor.headC
open Go.ChangeShapes Go.WideShapes Go.ChangeAt Go.RowKit
open Go.ChangeMaps (open_string shut_string)
set_option linter.unusedVariables false
open Go Go.RowKit
open Go.Proofs.YthlfclnfkgiddaaDoor.slc Go.Proofs.YthlfclnfkgiddaaDoor.small Go.Proofs.YthlfclnfkgiddaaDoor.elemC

/-- Bytes begin with the mark. -/
def pB (L : List UInt8) : Bool := L.take 4 == [65, 82, 82, 49]
/-- How many elements the bytes say. -/
def eB (L : List UInt8) : Nat := (L.getD 4 0).toNat
/-- Bytes begin as those of a record. -/
def hB (L : List UInt8) : Bool := decide (5 ≤ L.length) && (pB L && decide (1 ≤ eB L ∧ eB L ≤ 16))
theorem eB_lt (L : List UInt8) : eB L < 256 := UInt8.toNat_lt _
theorem sz (s : ByteArray) : s.data.toList.length = s.size := by simp
theorem ext4 (s : ByteArray) : (s.extract 0 4).toList = s.data.toList.take 4 := by rw [Lib.extract_toList]; simp
theorem at_list (s : ByteArray) (k : Nat) (h : k < s.size) : s[k] = s.data.toList.getD k 0 := by
  have h' : k < s.data.toList.length := by rw [sz]; exact h
  simp only [List.getD, List.getElem?_eq_getElem h']
  rfl
theorem pB_len {L : List UInt8} (h : pB L = true) : 4 ≤ L.length := by
  unfold pB at h
  have := congrArg List.length (eq_of_beq h)
  simp at this
  omega
theorem ext_drop (s : ByteArray) (k : Nat) : (s.extract k s.size).data.toList = s.data.toList.drop k := by
  rw [Lib.extract_data, List.take_of_length_le]
  simp
theorem has_c (s : ByteArray) (w : World) (hs : s.size ≤ maxLen) :
    Calls Tryd.prog 163 #[.string s, .string { data := #[65, 82, 82, 49] }] w fun e w' => e = .returned (.bool (pB s.data.toList)) ∧ w = w' := by
  unfold maxLen at hs
  by_cases h : 4 ≤ s.size
  · have h4 : (4 : Int) ≤ s.size := by omega
    have he : ((s.extract 0 4).toList == [65, 82, 82, 49]) = pB s.data.toList := by rw [ext4]; rfl
    generalize pB s.data.toList = b at *
    go_enter Tryd.func163, Tryd.ntmps163
    go_wp2_with fail
    go_ret
    exact ⟨rfl, rfl⟩
  · have h4 : ¬ (4 : Int) ≤ s.size := by omega
    have he : pB s.data.toList = false := by
      cases hb : pB s.data.toList with
      | false => rfl
      | true => have := pB_len hb; rw [sz] at this; omega
    rw [he]
    go_enter Tryd.func163, Tryd.ntmps163
    go_wp2_with fail
    go_ret
    exact ⟨rfl, rfl⟩
theorem cut_yes (s : ByteArray) (w : World) (hs : s.size ≤ maxLen) (h : pB s.data.toList = true) :
    Calls Tryd.prog 142 #[.string s, .string { data := #[65, 82, 82, 49] }] w fun e w' => (∃ r : ByteArray, r.data.toList = s.data.toList.drop 4 ∧ e = .returned (.tuple #[.string r, .bool true])) ∧ w = w' := by
  have h4 := pB_len h
  rw [sz] at h4
  have h4' : (4 : Int) ≤ s.size := by omega
  have HH := Lib.hid (has_c s w hs)
  rw [h] at HH
  have HX := Lib.hid (ext_drop s 4)
  unfold maxLen at hs
  clear h
  go_enter Tryd.func142, Tryd.ntmps142
  go_wp2_with fail
  refine HH.out.mono ?_
  rintro e w' ⟨rfl, rfl⟩
  go_wp2_with fail
  go_ret2
  exact ⟨⟨_, HX.out, rfl⟩, rfl⟩
theorem cut_no (s : ByteArray) (w : World) (hs : s.size ≤ maxLen) (h : pB s.data.toList = false) :
    Calls Tryd.prog 142 #[.string s, .string { data := #[65, 82, 82, 49] }] w fun e w' => e = .returned (.tuple #[.string s, .bool false]) ∧ w = w' := by
  have HH := Lib.hid (has_c s w hs)
  rw [h] at HH
  clear h
  go_enter Tryd.func142, Tryd.ntmps142
  go_wp2_with fail
  refine HH.out.mono ?_
  rintro e w' ⟨rfl, rfl⟩
  go_wp2_with fail
  go_ret2
  exact ⟨rfl, rfl⟩
theorem cutp_yes (s : ByteArray) (w : World) (hs : s.size ≤ maxLen) (h : pB s.data.toList = true) :
    Calls Tryd.prog 116 #[.string s, .string { data := #[65, 82, 82, 49] }] w fun e w' => (∃ r : ByteArray, r.data.toList = s.data.toList.drop 4 ∧ e = .returned (.tuple #[.string r, .bool true])) ∧ w = w' := by
  have HH := Lib.hid (cut_yes s w hs h)
  clear h
  go_enter Tryd.func116, Tryd.ntmps116
  go_wp2_with fail
  refine HH.out.mono ?_
  rintro e w' ⟨⟨r, hr, rfl⟩, rfl⟩
  go_wp2_with fail
  go_ret2
  exact ⟨⟨_, hr, rfl⟩, rfl⟩
theorem cutp_no (s : ByteArray) (w : World) (hs : s.size ≤ maxLen) (h : pB s.data.toList = false) :
    Calls Tryd.prog 116 #[.string s, .string { data := #[65, 82, 82, 49] }] w fun e w' => e = .returned (.tuple #[.string s, .bool false]) ∧ w = w' := by
  have HH := Lib.hid (cut_no s w hs h)
  clear h
  go_enter Tryd.func116, Tryd.ntmps116
  go_wp2_with fail
  refine HH.out.mono ?_
  rintro e w' ⟨rfl, rfl⟩
  go_wp2_with fail
  go_ret2
  exact ⟨rfl, rfl⟩
/-- The variable g holds an error. -/
def ErrV (g : Nat) (w : World) : Prop := ∃ tp p, w.cell? ⟨g, 0, none⟩ = some (.iface tp p)
theorem ErrV.kept {g : Nat} {w w' : World} (h : ErrV g w) (hg : w.grownBy w' none) : ErrV g w' := by
  obtain ⟨a, b, h1⟩ := h
  exact ⟨a, b, hg.cell h1 (by simp)⟩
theorem hB_no {L : List UInt8} (h : hB L = false) (hp : pB L = true) : L.length = 4 ∨ (5 ≤ L.length ∧ ¬ (1 ≤ eB L ∧ eB L ≤ 16)) := by
  have h4 := pB_len hp
  by_cases h5 : 5 ≤ L.length
  · right
    refine ⟨h5, fun h2 => ?_⟩
    unfold hB at h
    rw [decide_eq_true h5, hp, decide_eq_true h2] at h
    cases h
  · left; omega
theorem hB_yes {L : List UInt8} (h : hB L = true) : 5 ≤ L.length ∧ pB L = true ∧ 1 ≤ eB L ∧ eB L ≤ 16 := by
  unfold hB at h
  simp only [Bool.and_eq_true, decide_eq_true_eq] at h
  exact ⟨h.1, h.2.1, h.2.2⟩
theorem drop_at (L : List UInt8) (h : 5 ≤ L.length) : (L.drop 4).getD 0 0 = L.getD 4 0 := by simp [List.getD]
set_option maxRecDepth 100000 in
theorem split_no (s : ByteArray) (w : World) (hs : s.size ≤ maxLen) (h : hB s.data.toList = false) (hv : ErrV 1 w) :
    Calls Tryd.prog 72 #[.string s] w fun e w' => (∃ tp p, e = .returned (.tuple #[.int .i64 0, .string { data := #[] }, .iface tp p])) ∧ w.grownBy w' none := by
  obtain ⟨tp, p, hv⟩ := hv
  cases hp : pB s.data.toList with
  | false =>
    have HC := Lib.hid (cutp_no s w hs hp)
    clear h hp
    go_enter Tryd.func72, Tryd.ntmps72
    go_wp2_with fail
    refine HC.out.mono ?_
    rintro e w' ⟨rfl, rfl⟩
    go_wp2_with fail
    go_quiet (fail)
    go_wp2_with fail
    exact bodyPost_ret (v := .tuple #[.int .i64 0, .string { data := #[] }, .iface tp p]) (by simp [results, Tryd.results72, go_sem]) rfl ⟨⟨tp, p, rfl⟩, gb_drewN _ _ _⟩
  | true =>
    have HC := Lib.hid (cutp_yes s w hs hp)
    rcases hB_no h hp with h4 | ⟨h5, he⟩
    · clear h hp
      go_enter Tryd.func72, Tryd.ntmps72
      go_wp2_with fail
      refine HC.out.mono ?_
      rintro e w' ⟨⟨r, hr, rfl⟩, rfl⟩
      have hr0 : (r.toList == []) = true := by rw [Lib.toList_data, hr, List.drop_of_length_le (by omega)]; rfl
      go_wp2_with fail
      go_quiet (fail)
      go_wp2_with fail
      exact bodyPost_ret (v := .tuple #[.int .i64 0, .string { data := #[] }, .iface tp p]) (by simp [results, Tryd.results72, go_sem]) rfl ⟨⟨tp, p, rfl⟩, gb_drewN _ _ _⟩
    · have hel := drop_at _ h5
      have HE := Lib.hid (ecnt_no (eB s.data.toList : Int))
      have hn : (eB s.data.toList : Int) < 1 ∨ 16 < (eB s.data.toList : Int) := by omega
      clear h hp
      go_enter Tryd.func72, Tryd.ntmps72
      go_wp2_with fail
      refine HC.out.mono ?_
      rintro e w' ⟨⟨r, hr, rfl⟩, rfl⟩
      have hrl : 1 ≤ r.size := by rw [← sz, hr, List.length_drop]; omega
      have hr0 : (r.toList == []) = false := by
        rw [Lib.toList_data]
        cases hl : r.data.toList with
        | nil => rw [← sz, hl] at hrl; simp at hrl
        | cons x t => rfl
      have h0 : 0 < r.size := hrl
      have hb : (r[0].toNat : Int) = (eB s.data.toList : Int) := by rw [at_list r 0 h0, hr, hel]; rfl
      have hlt := eB_lt s.data.toList
      generalize eB s.data.toList = n at *
      go_wp2_with fail
      refine (HE.out _ hn).mono ?_
      rintro e w' ⟨rfl, rfl⟩
      go_wp2_with fail
      go_quiet (fail)
      go_wp2_with fail
      exact bodyPost_ret (v := .tuple #[.int .i64 0, .string { data := #[] }, .iface tp p]) (by simp [results, Tryd.results72, go_sem]) rfl ⟨⟨tp, p, rfl⟩, gb_drewN _ _ _⟩
set_option maxRecDepth 100000 in
theorem split_yes (s : ByteArray) (w : World) (hs : s.size ≤ maxLen) (h : hB s.data.toList = true) :
    Calls Tryd.prog 72 #[.string s] w fun e w' => (∃ r : ByteArray, r.data.toList = s.data.toList.drop 5 ∧ e = .returned (.tuple #[.int .i64 (eB s.data.toList : Nat), .string r, .nilIface])) ∧ w.grownBy w' none := by
  obtain ⟨h5, hp, e1, e2⟩ := hB_yes h
  have HC := Lib.hid (cutp_yes s w hs hp)
  have hel := drop_at _ h5
  have hlt := eB_lt s.data.toList
  obtain ⟨n, hen⟩ : ∃ n, eB s.data.toList = n := ⟨_, rfl⟩
  rw [hen] at e1 e2 hlt ⊢
  have HE := Lib.hid (ecnt_yes (n : Int))
  clear h hp
  go_enter Tryd.func72, Tryd.ntmps72
  go_wp2_with fail
  refine HC.out.mono ?_
  rintro e w' ⟨⟨r, hr, rfl⟩, rfl⟩
  have hrl : 1 ≤ r.size := by rw [← sz, hr, List.length_drop]; omega
  have hr0 : (r.toList == []) = false := by
    rw [Lib.toList_data]
    cases hl : r.data.toList with
    | nil => rw [← sz, hl] at hrl; simp at hrl
    | cons x t => rfl
  have h0 : 0 < r.size := hrl
  have hb : (r[0].toNat : Int) = (n : Int) := by rw [at_list r 0 h0, hr, hel, ← hen]; rfl
  have hdr : (r.extract 1 r.size).data.toList = s.data.toList.drop 5 := by rw [ext_drop, hr, List.drop_drop]
  clear hen
  have hsz : (1 : Int) ≤ (r.size : Int) := by omega
  go_wp2_with fail
  refine (HE.out _ (by omega) (by omega)).mono ?_
  rintro e w' ⟨rfl, rfl⟩
  go_wp2_with fail
  go_quiet (fail)
  go_wp2_with fail
  exact bodyPost_ret (v := .tuple #[.int .i64 (n : Nat), .string (r.extract 1 r.size), .nilIface]) (by simp [results, Tryd.results72, go_sem]) rfl ⟨⟨_, hdr, rfl⟩, gb_drewN _ _ _⟩
set_option maxHeartbeats 2000000 in
set_option maxRecDepth 100000 in
theorem open_c (s : ByteArray) (w : World) (hs : s.size ≤ maxLen) :
    Calls Tryd.prog 84 #[.string s] w fun e w' => e = .returned (.tuple #[.int .i64 (if 5 ≤ s.size ∧ pB s.data.toList = true then eB s.data.toList else 0 : Nat), .bool (hB s.data.toList)]) ∧ w.grownBy w' none := by
  have hx := ext4 s
  have hlt := eB_lt s.data.toList
  unfold maxLen at hs
  by_cases h5 : 5 ≤ s.size
  · have h5' : (5 : Int) ≤ s.size := by omega
    have h4' : (4 : Int) ≤ s.size := by omega
    have he : ((s.extract 0 4).toList == [65, 82, 82, 49]) = pB s.data.toList := by rw [hx]; rfl
    have hb : (s[4].toNat : Int) = (eB s.data.toList : Int) := by rw [at_list s 4 (by omega)]; rfl
    cases hp : pB s.data.toList with
    | false =>
      rw [show hB s.data.toList = false by unfold hB; rw [hp]; simp, if_neg (by simp)]
      rw [hp] at he
      clear hp hx
      go_enter Tryd.func84, Tryd.ntmps84
      go_wp2_with fail
      go_ret2
      exact ⟨rfl, World.grownBy.refl _ _⟩
    | true =>
      rw [if_pos ⟨h5, rfl⟩]
      have hbb : hB s.data.toList = decide (1 ≤ eB s.data.toList ∧ eB s.data.toList ≤ 16) := by unfold hB; rw [hp, decide_eq_true (show 5 ≤ s.data.toList.length by rw [sz]; exact h5)]; simp
      rw [hbb]
      rw [hp] at he
      generalize eB s.data.toList = n at *
      clear hp hx hbb
      have hw : IntKind.i64.wrap (n : Int) = (n : Int) := by rw [IntKind.wrap_i64]; omega
      by_cases hn : 1 ≤ n ∧ n ≤ 16
      · rw [decide_eq_true hn]
        have HE := Lib.hid (fun w => elem_yes (n : Int) w (by omega) (by omega))
        go_enter Tryd.func84, Tryd.ntmps84
        go_wp2_with fail
        go_region_with (go_at_call 126; refine (HE.out _).mono ?_; rintro e w1 ⟨rfl, rfl⟩)
        all_goals
          go_wp2_with fail
          go_ret2
          exact ⟨rfl, gb_drewN _ _ _⟩
      · rw [decide_eq_false hn]
        have HE := Lib.hid (fun w => elem_no (n : Int) w (by omega))
        go_enter Tryd.func84, Tryd.ntmps84
        go_wp2_with fail
        go_region_with (go_at_call 126; refine (HE.out _).mono ?_; rintro e w1 ⟨rfl, rfl⟩)
        all_goals
          go_wp2_with fail
          go_ret2
          exact ⟨rfl, gb_drewN _ _ _⟩
  · have h5' : (s.size : Int) < 5 := by omega
    rw [if_neg (fun h => h5 h.1), show hB s.data.toList = false by unfold hB; rw [decide_eq_false (show ¬ 5 ≤ s.data.toList.length by rw [sz]; exact h5)]; rfl]
    clear hx hlt
    go_enter Tryd.func84, Tryd.ntmps84
    go_wp2_with fail
    go_ret2
    exact ⟨rfl, World.grownBy.refl _ _⟩

end Go.Proofs.YthlfclnfkgiddaaDoor.headC
