/- The first frame of bytes, by the program. -/
import Derived.Test.YthlfclnfkgiddaaDoorRows
import Derived.Test.YthlfclnfkgiddaaDoorSlc
import Derived.Test.YthlfclnfkgiddaaDoorSmall
import Derived.Test.YthlfclnfkgiddaaDoorElemC
import Derived.Test.YthlfclnfkgiddaaDoorWordN
import Derived.Test.YthlfclnfkgiddaaDoorNumN
import Derived.Test.YthlfclnfkgiddaaDoorTakeN
import Derived.Test.YthlfclnfkgiddaaDoorWordS
import Derived.Test.YthlfclnfkgiddaaDoorWordI
import Derived.Test.YthlfclnfkgiddaaDoorFloats
import Derived.Test.YthlfclnfkgiddaaDoorRound
import Derived.Test.YthlfclnfkgiddaaDoorValues
import Derived.Test.YthlfclnfkgiddaaDoorConv
import Derived.Test.YthlfclnfkgiddaaDoorFWalk
import Derived.Test.YthlfclnfkgiddaaDoorBits
import Derived.Test.YthlfclnfkgiddaaDoorPhase
import Derived.Test.YthlfclnfkgiddaaDoorSine
import Derived.Test.YthlfclnfkgiddaaDoorPhasor
import Derived.Test.YthlfclnfkgiddaaDoorFinWalk
import Derived.Test.YthlfclnfkgiddaaDoorFloat2
import Derived.Test.YthlfclnfkgiddaaDoorFloat3
import Derived.Test.YthlfclnfkgiddaaDoorListC
import Derived.Test.YthlfclnfkgiddaaDoorCheckC
import Derived.Test.YthlfclnfkgiddaaDoorFrameS
import Derived.Test.YthlfclnfkgiddaaDoorFrameM
import Derived.Test.YthlfclnfkgiddaaDoorHeadC
import Derived.Test.YthlfclnfkgiddaaDoorDiffC
import Derived.Test.YthlfclnfkgiddaaDoorDiffD
import Derived.Test.YthlfclnfkgiddaaDoorAtS
import Derived.Test.YthlfclnfkgiddaaDoorAtF
import Derived.Test.YthlfclnfkgiddaaDoorStoreI
import Derived.Test.YthlfclnfkgiddaaDoorChunkS
import Derived.Test.YthlfclnfkgiddaaDoorTakeI
import Derived.WalkKit
import Derived.ProofKit
import Derived.OpenShut
import Derived.ShutString
import Derived.ChangeOld
import Derived.Below
import Derived.Lib.Hide
import Derived.BigQuiet
import Derived.Deep.QuietTactic
import Derived.WalkLawsBesides
import Derived.Outline
import Derived.Deep.QuietTactic
import Derived.BigQuiet
import Derived.Deep.LoopGhost
import Derived.Deep.RegionWith
import Derived.Deep.RegionHeld3
import Derived.Laws.ComplexArith
import Derived.Lib.Strings
namespace Go.Proofs.YthlfclnfkgiddaaDoor.firstI
open Go.ChangeShapes Go.WideShapes Go.ChangeAt Go.RowKit
open Go.ChangeMaps (open_string shut_string)
set_option linter.unusedVariables false
open Go Ieee Go.RowKit
open Go.Proofs.YthlfclnfkgiddaaDoor.slc Go.Proofs.YthlfclnfkgiddaaDoor.small Go.Proofs.YthlfclnfkgiddaaDoor.elemC Go.Proofs.YthlfclnfkgiddaaDoor.wordN Go.Proofs.YthlfclnfkgiddaaDoor.numN Go.Proofs.YthlfclnfkgiddaaDoor.takeN Go.Proofs.YthlfclnfkgiddaaDoor.wordS Go.Proofs.YthlfclnfkgiddaaDoor.floats Go.Proofs.YthlfclnfkgiddaaDoor.bits Go.Proofs.YthlfclnfkgiddaaDoor.listC Go.Proofs.YthlfclnfkgiddaaDoor.frameS Go.Proofs.YthlfclnfkgiddaaDoor.frameM Go.Proofs.YthlfclnfkgiddaaDoor.headC Go.Proofs.YthlfclnfkgiddaaDoor.atS Go.Proofs.YthlfclnfkgiddaaDoor.storeI

theorem idx_i (n : Nat) (w : World) (b : Bool) (h : decide (n ≤ 1000000) = b) : Calls Tryd.prog 118 #[.int .i64 (n : Int)] w fun e w' => e = .returned (.bool b) ∧ w = w' := by
  by_cases hn : n ≤ 1000000
  · rw [decide_eq_true hn] at h
    subst h
    have HI := Lib.hid (fun w => within_yes (n : Int) 0 1000000 w (by omega) (by omega))
    go_enter Tryd.func118, Tryd.ntmps118
    go_wp2_with fail
    refine (HI.out _).mono ?_
    rintro e w' ⟨rfl, rfl⟩
    go_wp2_with fail
    go_ret
    exact ⟨rfl, rfl⟩
  · rw [decide_eq_false hn] at h
    subst h
    have HI := Lib.hid (fun w => within_no (n : Int) 0 1000000 w (by omega))
    go_enter Tryd.func118, Tryd.ntmps118
    go_wp2_with fail
    refine (HI.out _).mono ?_
    rintro e w' ⟨rfl, rfl⟩
    go_wp2_with fail
    go_ret
    exact ⟨rfl, rfl⟩
/-- takenFrame of the first bytes of a text. -/
theorem take_first (s : ByteArray) (n D : Nat) (w : World) (h1 : 1 ≤ n) (h2 : n ≤ 16) (hD : 8 * n + 6 = D) (hl : D ≤ s.size) :
    Calls Tryd.prog 117 #[.string (s.extract 0 D)] w fun e w' => (∃ A c, e = .returned (.agg #[.int .i64 (n4 s.data.toList 0 : Nat), .slice A n c]) ∧ w'.ownsRow w.heap.size 110 1 (.slice A n c) n (lst (ccell (tk s.data.toList 0 n)) n)) ∧ w.grownBy w' none := by
  have hL : (s.extract 0 D).data.toList = s.data.toList.take D := by rw [Lib.extract_data]; simp
  have h := Go.Proofs.YthlfclnfkgiddaaDoor.takeI.take_i (s.extract 0 D) n w h1 h2 (by rw [ByteArray.size_extract]; omega)
  rw [hL, n4_take _ (by omega), tk_take _ (by omega)] at h
  exact h
theorem ne_nil {s : ByteArray} (h : 1 ≤ s.size) : (s.toList == []) = false := by
  rw [Lib.toList_data]
  cases hl : s.data.toList with
  | nil => rw [← sz, hl] at h; simp at h
  | cons x t => rfl
set_option maxHeartbeats 2000000 in
set_option maxRecDepth 100000 in
theorem first_ok (s : ByteArray) (n : Nat) (w : World) (h1 : 1 ≤ n) (h2 : n ≤ 16) (hs : s.size ≤ 1099511627776) (hl : 8 * n + 6 ≤ s.size) (hok : fok s.data.toList 0 n = true) :
    Calls Tryd.prog 74 #[.string s, .int .i64 (n : Int)] w fun e w' => (∃ A c, e = .returned (.tuple #[.agg #[.int .i64 (n4 s.data.toList 0 : Nat), .slice A n c], .nilIface]) ∧ w'.ownsRow w.heap.size 110 1 (.slice A n c) n (lst (ccell (tk s.data.toList 0 n)) n)) ∧ w.grownBy w' none := by
  obtain ⟨D, hD⟩ : ∃ D, 8 * n + 6 = D := ⟨_, rfl⟩
  have hse := ne_nil (s := s) (by omega)
  have hz := fun w => fsz_i (n : Int) w (by omega) (by omega)
  rw [show 8 * (n : Int) + 6 = (D : Int) by omega] at hz
  have HZ := Lib.hid hz
  have HT := Lib.hid (fun w => take_first s n D w h1 h2 hD (by omega))
  have hR := Fk.new w (.int .i64 0) (.slice none 0 0)
  have gR := World.grownBy_alloc w (.cells #[.int .i64 0, .slice none 0 0] 51) none
  have HR := Lib.hid (And.intro hR gR)
  have hlt : ¬ (s.size : Int) < (D : Int) := by omega
  have hle : (D : Int) ≤ (s.size : Int) := by omega
  have htl := tk_len s.data.toList 0 n
  unfold fok at hok
  obtain ⟨hi, hfb⟩ := of_decide_eq_true hok
  have hni := n4_lt s.data.toList 0
  have hcmp : ((bs (fb (can .f32) (n4 s.data.toList 0) (tk s.data.toList 0 n))).toList == (s.extract 0 D).toList) = true := by
    rw [Lib.toList_data, bs_list, Lib.extract_toList, hfb, hD]
    simp
  have HXB := Lib.hid (tk_bd s.data.toList 0 n)
  have HS := Lib.hid (fun (A : Option Addr) (c B : Nat) (w : World) (hr : Rd w B A n (ccell (tk s.data.toList 0 n))) (hB : B ≤ w.heap.size) => (show Calls Tryd.prog 63 #[.agg #[.int .i64 (n4 s.data.toList 0 : Nat), .slice A n c]] w fun e w' => e = .returned (.string (bs (fb (can .f32) (n4 s.data.toList 0) (tk s.data.toList 0 n)))) ∧ w.grownBy w' none from by
    have h := stored_i B (n4 s.data.toList 0) c A (tk s.data.toList 0 n) w HXB.out (by rw [htl]; exact h2) hni (by rw [htl]; exact hr) hB
    rw [htl] at h
    exact h))
  have hdi : decide (n4 s.data.toList 0 ≤ 1000000) = true := decide_eq_true hi
  have HX := Lib.hid (fun w => idx_i (n4 s.data.toList 0) w true hdi)
  clear hR gR hz hok hfb hdi
  generalize n4 s.data.toList 0 = idx at *
  generalize bs (fb (can .f32) idx (tk s.data.toList 0 n)) = T at *
  generalize tk s.data.toList 0 n = xs at *
  go_enter Tryd.func74, Tryd.ntmps74
  go_wp2_with fail
  refine (HZ.out _).mono ?_
  rintro e w' ⟨rfl, rfl⟩
  go_wp2_with fail
  refine (HT.out _).mono ?_
  rintro e w2 ⟨⟨A, c, rfl, hrow⟩, g2⟩
  have g3 := World.grownBy_alloc w2 (.cells #[.int .i64 (idx : Int), .slice A n c] 51) none
  have hF := Fk.new w2 (.int .i64 (idx : Int)) (.slice A n c)
  have hrow := own_kept0 hrow g3
  rw [show (w.alloc (.cells #[.int .i64 0, .slice none 0 0] 51)).heap.size = w.heap.size + 1 by simp] at hrow
  have hR := HR.out.1.keep (g2.trans g3) (by simp)
  have gA := HR.out.2.trans (g2.trans g3)
  have hs3 : w2.heap.size < (w2.alloc (.cells #[.int .i64 (idx : Int), .slice A n c] 51)).heap.size := by simp
  have hw2 := g2.size
  go_wp2_with fail
  generalize w2.alloc (.cells #[.int .i64 (idx : Int), .slice A n c] 51) = wx at *
  generalize hq : w2.heap.size = q at *
  generalize hr0 : w.heap.size = r at *
  have HST := Lib.hid (fun (w' : World) (g : wx.grownBy w' none) => HS.out A c wx.heap.size w' ((Rd.of_lst hrow (Nat.mul_one _).symm).kept0 g (Nat.le_refl _)) g.size)
  have HGD := Lib.hid (show wx.grownBy wx.drew none from gb_drewN wx 1 none)
  have HK := Lib.hid (And.intro hF (And.intro hR (And.intro hrow gA)))
  have q0d : wx.drew.cell? ⟨q, 0, none⟩ = some (.int .i64 (idx : Int)) := hF.cells.1
  have q1d : wx.drew.cell? ⟨q, 1, none⟩ = some (.slice A n c) := hF.cells.2.1
  clear hF hR hrow gA g2 g3 hs3 hq hni htl
  go_region_with (first
    | (go_at_call 118; refine (HX.out _).mono ?_; rintro e w5 ⟨rfl, rfl⟩)
    | (go_at_call 63; refine (HST.out _ HGD.out).mono ?_; rintro e w6 ⟨rfl, hg⟩; obtain ⟨s0, s1, _, _⟩ := (HK.out.1.keep (HGD.out.trans hg) (by simp)).cells; obtain ⟨_, _, t2, t3⟩ := (HK.out.2.1.keep (HGD.out.trans hg) (by simp)).cells; have HG6 := Lib.hid (And.intro (HGD.out.trans hg) (res_put ((HK.out.2.1.keep (HGD.out.trans hg) (by simp))) (.int .i64 (idx : Int)) (.slice A n c)))))
  all_goals
    go_wp2_with fail
    obtain ⟨g6, ⟨c0, c1⟩, gP⟩ := HG6.out
    exact bodyPost_ret (v := .tuple #[.agg #[.int .i64 (idx : Int), .slice A n c], .nilIface]) (by simp [results, Tryd.results74, go_sem, c0, c1]) rfl
      ⟨⟨A, c, rfl, by rw [hr0]; exact Go.Proofs.YthlfclnfkgiddaaDoor.atF.row_base (World.ownsRow.kept (own_kept0 HK.out.2.2.1 g6) gP (.inr (fun e => by rw [own_blk] at e; have := (own_base HK.out.2.2.1 r e).1; omega))) (Nat.le_succ r)⟩, gb_new (HK.out.2.2.2.trans g6) gP (by intro g e; injection e with e; omega)⟩
set_option maxHeartbeats 2000000 in
set_option maxRecDepth 100000 in
/-- What is no frame. -/
theorem first_bad (s : ByteArray) (n : Nat) (w : World) (tp p) (h1 : 1 ≤ n) (h2 : n ≤ 16) (hs : s.size ≤ 1099511627776) (hl : 8 * n + 6 ≤ s.size) (hok : fok s.data.toList 0 n = false) (hv : w.cell? ⟨4, 0, none⟩ = some (.iface tp p)) :
    Calls Tryd.prog 74 #[.string s, .int .i64 (n : Int)] w fun e w' => e = .returned (.tuple #[.agg #[.int .i64 0, .slice none 0 0], .iface tp p]) ∧ w.grownBy w' none := by
  obtain ⟨D, hD⟩ : ∃ D, 8 * n + 6 = D := ⟨_, rfl⟩
  have hse := ne_nil (s := s) (by omega)
  have hz := fun w => fsz_i (n : Int) w (by omega) (by omega)
  rw [show 8 * (n : Int) + 6 = (D : Int) by omega] at hz
  have HZ := Lib.hid hz
  have HT := Lib.hid (fun w => take_first s n D w h1 h2 hD (by omega))
  have hR := Fk.new w (.int .i64 0) (.slice none 0 0)
  have gR := World.grownBy_alloc w (.cells #[.int .i64 0, .slice none 0 0] 51) none
  have HR := Lib.hid (And.intro hR gR)
  have hlt : ¬ (s.size : Int) < (D : Int) := by omega
  have hle : (D : Int) ≤ (s.size : Int) := by omega
  have htl := tk_len s.data.toList 0 n
  have hni := n4_lt s.data.toList 0
  have HXB := Lib.hid (tk_bd s.data.toList 0 n)
  have HS := Lib.hid (fun (A : Option Addr) (c B : Nat) (w : World) (hr : Rd w B A n (ccell (tk s.data.toList 0 n))) (hB : B ≤ w.heap.size) => (show Calls Tryd.prog 63 #[.agg #[.int .i64 (n4 s.data.toList 0 : Nat), .slice A n c]] w fun e w' => e = .returned (.string (bs (fb (can .f32) (n4 s.data.toList 0) (tk s.data.toList 0 n)))) ∧ w.grownBy w' none from by
    have h := stored_i B (n4 s.data.toList 0) c A (tk s.data.toList 0 n) w HXB.out (by rw [htl]; exact h2) hni (by rw [htl]; exact hr) hB
    rw [htl] at h
    exact h))
  have hcmp : n4 s.data.toList 0 ≤ 1000000 → ((bs (fb (can .f32) (n4 s.data.toList 0) (tk s.data.toList 0 n))).toList == (s.extract 0 D).toList) = false := by
    intro hi
    rw [Lib.toList_data, bs_list, Lib.extract_toList]
    cases hc : (fb (can .f32) (n4 s.data.toList 0) (tk s.data.toList 0 n) == (s.data.toList.drop 0).take (D - 0)) with
    | false => rfl
    | true =>
      have := eq_of_beq hc
      unfold fok at hok
      rw [decide_eq_true ⟨hi, by rw [this, hD]; simp⟩] at hok
      cases hok
  have HX := Lib.hid (fun w b h => idx_i (n4 s.data.toList 0) w b h)
  clear hz hok
  generalize n4 s.data.toList 0 = idx at *
  generalize bs (fb (can .f32) idx (tk s.data.toList 0 n)) = T at *
  generalize tk s.data.toList 0 n = xs at *
  have hv1 := gR.cell hv (by simp)
  have hvr := World.block_lt_of_cell? w _ hv
  dsimp only at hvr
  have HV := Lib.hid hv1
  clear hR gR hv hv1
  go_enter Tryd.func74, Tryd.ntmps74
  go_wp2_with fail
  refine (HZ.out _).mono ?_
  rintro e w' ⟨rfl, rfl⟩
  go_wp2_with fail
  refine (HT.out _).mono ?_
  rintro e w2 ⟨⟨A, c, rfl, hrow⟩, g2⟩
  have g3 := World.grownBy_alloc w2 (.cells #[.int .i64 (idx : Int), .slice A n c] 51) none
  have hF := Fk.new w2 (.int .i64 (idx : Int)) (.slice A n c)
  have hrow := own_kept0 hrow g3
  have hR := HR.out.1.keep (g2.trans g3) (by simp)
  have gA := HR.out.2.trans (g2.trans g3)
  have hv := (g2.trans g3).cell HV.out (by simp)
  go_wp2_with fail
  generalize w2.alloc (.cells #[.int .i64 (idx : Int), .slice A n c] 51) = wx at *
  generalize hq : w2.heap.size = q at *
  generalize hr0 : w.heap.size = r at *
  have hvn : ¬ r = 4 := by omega
  have HST := Lib.hid (fun (w' : World) (g : wx.grownBy w' none) => HS.out A c wx.heap.size w' ((Rd.of_lst hrow (Nat.mul_one _).symm).kept0 g (Nat.le_refl _)) g.size)
  have HGD := Lib.hid (show wx.grownBy wx.drew none from gb_drewN wx 1 none)
  have HK := Lib.hid (And.intro hF (And.intro hR (And.intro hv gA)))
  have q0d : wx.drew.cell? ⟨q, 0, none⟩ = some (.int .i64 (idx : Int)) := hF.cells.1
  have q1d : wx.drew.cell? ⟨q, 1, none⟩ = some (.slice A n c) := hF.cells.2.1
  by_cases hi : idx ≤ 1000000
  · have hcmp := hcmp hi
    have HXX := Lib.hid (fun w => HX.out w true (decide_eq_true hi))
    clear hF hR hrow gA g2 g3 hq hni htl hv
    go_region_with (first
      | (go_at_call 118; refine (HXX.out _).mono ?_; rintro e w5 ⟨rfl, rfl⟩)
      | (go_at_call 63; refine (HST.out _ HGD.out).mono ?_; rintro e w6 ⟨rfl, hg⟩; obtain ⟨s0, s1, _, _⟩ := (HK.out.1.keep (HGD.out.trans hg) (by simp)).cells; have hv6 := (HGD.out.trans hg).cell HK.out.2.2.1 (by simp); have HG6 := Lib.hid (HGD.out.trans hg)))
    all_goals
      have hR6 := HK.out.2.1.keep HG6.out (by simp)
      obtain ⟨t0, t1, t2, t3⟩ := hR6.cells
      have HG7 := Lib.hid (And.intro HG6.out (res_put hR6 (.int .i64 0) (.slice none 0 0)))
      clear hR6
      go_wp2_with fail
      have hv6d : w6.drew.cell? ⟨4, 0, none⟩ = some (.iface tp p) := hv6
      go_region
      all_goals
        go_wp2_with fail
        obtain ⟨g6, ⟨c0, c1⟩, gP⟩ := HG7.out
        have c0' : ((w6.setCell ⟨r, 0, none⟩ (.int .i64 0)).setCell ⟨r, 1, none⟩ (.slice none 0 0)).drew.cell? ⟨r, 0, none⟩ = some (.int .i64 0) := c0
        have c1' : ((w6.setCell ⟨r, 0, none⟩ (.int .i64 0)).setCell ⟨r, 1, none⟩ (.slice none 0 0)).drew.cell? ⟨r, 1, none⟩ = some (.slice none 0 0) := c1
        exact bodyPost_ret (v := .tuple #[.agg #[.int .i64 0, .slice none 0 0], .iface tp p]) (by simp [results, Tryd.results74, go_sem, c0', c1']) rfl ⟨rfl, gb_new (HK.out.2.2.2.trans g6) (gP.trans (gb_drewN _ 1 (some r))) (by intro g e; injection e with e; omega)⟩
  · have HXX := Lib.hid (fun w => HX.out w false (decide_eq_false hi))
    clear hF hR hrow gA g2 g3 hq hni htl hv hcmp
    obtain ⟨q0, q1, _, _⟩ := HK.out.1.cells
    go_quiet (first | (go_at_call 118; refine Calls.quiet_of_same ((HXX.out _).mono (fun e w' h => ⟨h.1, h.2.symm⟩))))
    have gN := gb_drewN wx nq none
    have hR6 := HK.out.2.1.keep gN (by simp)
    have hv6 := gN.cell HK.out.2.2.1 (by simp)
    generalize wx.drewN nq = w6 at *
    obtain ⟨t0, t1, t2, t3⟩ := hR6.cells
    have HG7 := Lib.hid (And.intro gN (res_put hR6 (.int .i64 0) (.slice none 0 0)))
    clear hR6
    go_wp2_with fail
    have hv6d : w6.drew.cell? ⟨4, 0, none⟩ = some (.iface tp p) := hv6
    go_region
    all_goals
      go_wp2_with fail
      obtain ⟨g6, ⟨c0, c1⟩, gP⟩ := HG7.out
      have c0' : ((w6.setCell ⟨r, 0, none⟩ (.int .i64 0)).setCell ⟨r, 1, none⟩ (.slice none 0 0)).drew.cell? ⟨r, 0, none⟩ = some (.int .i64 0) := c0
      have c1' : ((w6.setCell ⟨r, 0, none⟩ (.int .i64 0)).setCell ⟨r, 1, none⟩ (.slice none 0 0)).drew.cell? ⟨r, 1, none⟩ = some (.slice none 0 0) := c1
      exact bodyPost_ret (v := .tuple #[.agg #[.int .i64 0, .slice none 0 0], .iface tp p]) (by simp [results, Tryd.results74, go_sem, c0', c1']) rfl ⟨rfl, gb_new (HK.out.2.2.2.trans g6) (gP.trans (gb_drewN _ 1 (some r))) (by intro g e; injection e with e; omega)⟩
theorem first_end (s : ByteArray) (n : Int) (w : World) (tp p) (hs : s.size = 0) (hv : w.cell? ⟨0, 0, none⟩ = some (.iface tp p)) :
    Calls Tryd.prog 74 #[.string s, .int .i64 n] w fun e w' => e = .returned (.tuple #[.agg #[.int .i64 0, .slice none 0 0], .iface tp p]) ∧ w.grownBy w' none := by
  have hse : (s.toList == []) = true := by
    rw [Lib.toList_data]
    cases hl : s.data.toList with
    | nil => rfl
    | cons x t => rw [← sz, hl] at hs; simp at hs
  have hR := Fk.new w (.int .i64 0) (.slice none 0 0)
  have gR := World.grownBy_alloc w (.cells #[.int .i64 0, .slice none 0 0] 51) none
  have hv6 := gR.cell hv (by simp)
  have hvr := World.block_lt_of_cell? w _ hv
  dsimp only at hvr
  obtain ⟨t0, t1, t2, t3⟩ := hR.cells
  have HG7 := Lib.hid (And.intro gR (res_put hR (.int .i64 0) (.slice none 0 0)))
  clear hR gR hv
  go_enter Tryd.func74, Tryd.ntmps74
  go_wp2_with fail
  generalize w.alloc (.cells #[.int .i64 0, .slice none 0 0] 51) = w6 at *
  generalize hr0 : w.heap.size = r at *
  have hvn : ¬ r = 0 := by omega
  have hv6d : w6.drew.cell? ⟨0, 0, none⟩ = some (.iface tp p) := hv6
  go_region
  all_goals
    go_wp2_with fail
    obtain ⟨g6, ⟨c0, c1⟩, gP⟩ := HG7.out
    have c0' : ((w6.setCell ⟨r, 0, none⟩ (.int .i64 0)).setCell ⟨r, 1, none⟩ (.slice none 0 0)).drew.cell? ⟨r, 0, none⟩ = some (.int .i64 0) := c0
    have c1' : ((w6.setCell ⟨r, 0, none⟩ (.int .i64 0)).setCell ⟨r, 1, none⟩ (.slice none 0 0)).drew.cell? ⟨r, 1, none⟩ = some (.slice none 0 0) := c1
    exact bodyPost_ret (v := .tuple #[.agg #[.int .i64 0, .slice none 0 0], .iface tp p]) (by simp [results, Tryd.results74, go_sem, c0', c1']) rfl ⟨rfl, gb_new (g6) (gP.trans (gb_drewN _ 1 (some r))) (by intro g e; injection e with e; omega)⟩
theorem first_cut (s : ByteArray) (n : Nat) (w : World) (tp p) (h1 : 1 ≤ n) (h2 : n ≤ 16) (hs : 1 ≤ s.size) (hl : s.size < 8 * n + 6) (hv : w.cell? ⟨3, 0, none⟩ = some (.iface tp p)) :
    Calls Tryd.prog 74 #[.string s, .int .i64 (n : Int)] w fun e w' => e = .returned (.tuple #[.agg #[.int .i64 0, .slice none 0 0], .iface tp p]) ∧ w.grownBy w' none := by
  obtain ⟨D, hD⟩ : ∃ D, 8 * n + 6 = D := ⟨_, rfl⟩
  have hse := ne_nil hs
  have hz := fun w => fsz_i (n : Int) w (by omega) (by omega)
  rw [show 8 * (n : Int) + 6 = (D : Int) by omega] at hz
  have HZ := Lib.hid hz
  have hlt : (s.size : Int) < (D : Int) := by omega
  have hR := Fk.new w (.int .i64 0) (.slice none 0 0)
  have gR := World.grownBy_alloc w (.cells #[.int .i64 0, .slice none 0 0] 51) none
  have hv6 := gR.cell hv (by simp)
  have hvr := World.block_lt_of_cell? w _ hv
  dsimp only at hvr
  obtain ⟨t0, t1, t2, t3⟩ := hR.cells
  have HG7 := Lib.hid (And.intro gR (res_put hR (.int .i64 0) (.slice none 0 0)))
  clear hR gR hv hz
  go_enter Tryd.func74, Tryd.ntmps74
  go_wp2_with fail
  refine (HZ.out _).mono ?_
  rintro e w' ⟨rfl, rfl⟩
  go_wp2_with fail
  generalize w.alloc (.cells #[.int .i64 0, .slice none 0 0] 51) = w6 at *
  generalize hr0 : w.heap.size = r at *
  have hvn : ¬ r = 3 := by omega
  have hv6d : w6.drew.cell? ⟨3, 0, none⟩ = some (.iface tp p) := hv6
  go_region
  all_goals
    go_wp2_with fail
    obtain ⟨g6, ⟨c0, c1⟩, gP⟩ := HG7.out
    have c0' : ((w6.setCell ⟨r, 0, none⟩ (.int .i64 0)).setCell ⟨r, 1, none⟩ (.slice none 0 0)).drew.cell? ⟨r, 0, none⟩ = some (.int .i64 0) := c0
    have c1' : ((w6.setCell ⟨r, 0, none⟩ (.int .i64 0)).setCell ⟨r, 1, none⟩ (.slice none 0 0)).drew.cell? ⟨r, 1, none⟩ = some (.slice none 0 0) := c1
    exact bodyPost_ret (v := .tuple #[.agg #[.int .i64 0, .slice none 0 0], .iface tp p]) (by simp [results, Tryd.results74, go_sem, c0', c1']) rfl ⟨rfl, gb_new (g6) (gP.trans (gb_drewN _ 1 (some r))) (by intro g e; injection e with e; omega)⟩

end Go.Proofs.YthlfclnfkgiddaaDoor.firstI
