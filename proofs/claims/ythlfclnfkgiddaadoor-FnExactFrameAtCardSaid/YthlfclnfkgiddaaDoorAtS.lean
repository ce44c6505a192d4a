/- A frame at a place of bytes, by the model. -/
import Derived.Test.YthlfclnfkgiddaaDoorRows
import Derived.Test.YthlfclnfkgiddaaDoorSlc
import Derived.Test.YthlfclnfkgiddaaDoorSmall
import Derived.Test.YthlfclnfkgiddaaDoorElemC
import Derived.Test.YthlfclnfkgiddaaDoorWordN
import Derived.Test.YthlfclnfkgiddaaDoorNumN
import Derived.Test.YthlfclnfkgiddaaDoorWordS
import Derived.Test.YthlfclnfkgiddaaDoorCheckC
import Derived.Test.YthlfclnfkgiddaaDoorFloats
import Derived.Test.YthlfclnfkgiddaaDoorRound
import Derived.Test.YthlfclnfkgiddaaDoorValues
import Derived.Test.YthlfclnfkgiddaaDoorConv
import Derived.Test.YthlfclnfkgiddaaDoorFWalk
import Derived.Test.YthlfclnfkgiddaaDoorBits
import Derived.Test.YthlfclnfkgiddaaDoorPhase
import Derived.Test.YthlfclnfkgiddaaDoorSine
import Derived.Test.YthlfclnfkgiddaaDoorPhasor
import Derived.Test.YthlfclnfkgiddaaDoorFinWalk
import Derived.Test.YthlfclnfkgiddaaDoorFloat2
import Derived.Test.YthlfclnfkgiddaaDoorFloat3
import Derived.Test.YthlfclnfkgiddaaDoorListC
import Derived.Test.YthlfclnfkgiddaaDoorFrameS
import Derived.Test.YthlfclnfkgiddaaDoorFrameM
import Derived.Test.YthlfclnfkgiddaaDoorHeadC
import Derived.Test.YthlfclnfkgiddaaDoorDiffC
import Derived.Test.YthlfclnfkgiddaaDoorDiffD
import Derived.WalkKit
import Derived.ProofKit
import Derived.OpenShut
import Derived.ShutString
import Derived.ChangeOld
import Derived.Below
import Derived.Lib.Hide
import Derived.BigQuiet
import Derived.Deep.QuietTactic
import Derived.WalkLawsBesides
import Derived.Outline
import Derived.Deep.QuietTactic
import Derived.BigQuiet
import Derived.Deep.LoopGhost
import Derived.Deep.RegionWith
import Derived.Deep.RegionHeld3
import Derived.Laws.ComplexArith
import Derived.Lib.Strings
namespace Go.Proofs.YthlfclnfkgiddaaDoor.atS
open Go.ChangeShapes Go.WideShapes Go.ChangeAt Go.RowKit
open Go.ChangeMaps (open_string shut_string)
set_option linter.unusedVariables false
open Go Ieee Go.RowKit
open Go.Proofs.YthlfclnfkgiddaaDoor.slc Go.Proofs.YthlfclnfkgiddaaDoor.small Go.Proofs.YthlfclnfkgiddaaDoor.elemC Go.Proofs.YthlfclnfkgiddaaDoor.wordN Go.Proofs.YthlfclnfkgiddaaDoor.numN Go.Proofs.YthlfclnfkgiddaaDoor.wordS Go.Proofs.YthlfclnfkgiddaaDoor.floats Go.Proofs.YthlfclnfkgiddaaDoor.bits Go.Proofs.YthlfclnfkgiddaaDoor.listC Go.Proofs.YthlfclnfkgiddaaDoor.frameS Go.Proofs.YthlfclnfkgiddaaDoor.frameM

theorem run_store_slice {P : Program} {w : World} {m : Mode} (a : Addr) (x : Option Addr) (n c : Nat) : (store a (.slice x n c) m).run P w = stored P w a (.slice x n c) m := run_store P w a _ m rfl
attribute [local go_sem] Go.Proofs.YthlfclnfkgiddaaDoor.fWalk.c_f32from
set_option maxRecDepth 100000 in
theorem from_s (n : Nat) (w : World) (h1 : n < 4294967296) : Calls Tryd.prog 128 #[.int .i64 (n : Int)] w fun e w' => e = .returned (.float .f32 n) ∧ w = w' := by
  have h0 : (0 : Int) ≤ (n : Int) := by omega
  have h2 : (n : Int) ≤ 4294967295 := by omega
  go_enter Tryd.func128, Tryd.ntmps128
  go_wp2
  go_ret
  exact ⟨by simp, rfl⟩
open Classical in
/-- What a frame's bytes tell. -/
noncomputable def fok (L : List UInt8) (a n : Nat) : Bool := decide (n4 L a ≤ 1000000 ∧ fb (can .f32) (n4 L a) (tk L a n) = (L.drop a).take (8 * n + 6))
attribute [local go_sem] run_store_slice run_store_complex
attribute [local go_sem ↓] app_stop
set_option maxHeartbeats 2000000 in
set_option maxRecDepth 100000 in
theorem at_long (s : ByteArray) (a n : Nat) (w : World) (h1 : 1 ≤ n) (h2 : n ≤ 16) (hs : s.size ≤ 1099511627776) (ha : a ≤ 1125899906842624) (hl : s.size < a + (8 * n + 6)) :
    Calls Tryd.prog 86 #[.string s, .int .i64 (a : Int), .int .i64 (n : Int)] w fun e w' => (∃ A c, e = .returned (.tuple #[.agg #[.int .i64 0, .slice A 0 c], .bool false])) ∧ w.grownBy w' none := by
  have HZ := Lib.hid (fun w => fsz_s (n : Int) w (by omega) (by omega))
  have hF := Fr.start w
  obtain ⟨E, hE⟩ : ∃ E, a + (8 * n + 6) = E := ⟨_, rfl⟩
  have he : (a : Int) + (8 * (n : Int) + 6) = (E : Int) := by omega
  have hw : IntKind.i64.wrap ((a : Int) + (8 * (n : Int) + 6)) = (E : Int) := by rw [IntKind.wrap_i64]; omega
  have hlt : (s.size : Int) < (E : Int) := by omega
  go_enter Tryd.func86, Tryd.ntmps86
  go_wp2_with fail
  refine (HZ.out _).mono ?_
  rintro e w' ⟨rfl, rfl⟩
  generalize ((w.alloc (.cells #[.int .i64 0, .slice none 0 0] 51)).alloc (.cells #[] 110)).alloc (.cells #[.int .i64 0, .slice (some ⟨w.heap.size + 1, 0, none⟩) 0 0] 51) = wx at *
  obtain ⟨q0, q1, q2, q3⟩ := hF.fb.cells
  obtain ⟨r0, r1, r2, r3⟩ := hF.rb.cells
  have HG := Lib.hid (And.intro hF.gb hF.rb)
  clear hF
  generalize hr : w.heap.size = r at *
  obtain ⟨P1, p1⟩ := HG.out.2.put1 (.int .i64 0)
  obtain ⟨P2, p2⟩ := P1.put2 (.slice (some ⟨r + 1, 0, none⟩) 0 0)
  have HP := Lib.hid (And.intro P2.cells (gb_new (gb_new HG.out.1 p1 (by intro g e; injection e with e; omega)) p2 (by intro g e; injection e with e; omega)))
  clear P1 p1 P2 p2
  go_wp2_with fail
  obtain ⟨⟨z0, z1, _, _⟩, hg⟩ := HP.out
  exact bodyPost_ret (v := .tuple #[.agg #[.int .i64 0, .slice (some ⟨r + 1, 0, none⟩) 0 0], .bool false]) (by simp [results, Tryd.results86, go_sem, z0, z1]) rfl ⟨⟨_, _, rfl⟩, hg⟩

theorem res_put {w : World} {r : Nat} {i v : Value} (h : Fk w r i v) (i' v' : Value) : (((w.setCell ⟨r, 0, none⟩ i').setCell ⟨r, 1, none⟩ v').cell? ⟨r, 0, none⟩ = some i' ∧ ((w.setCell ⟨r, 0, none⟩ i').setCell ⟨r, 1, none⟩ v').cell? ⟨r, 1, none⟩ = some v') ∧ w.grownBy ((w.setCell ⟨r, 0, none⟩ i').setCell ⟨r, 1, none⟩ v') (some r) := by
  obtain ⟨P1, p1⟩ := h.put1 i'
  obtain ⟨P2, p2⟩ := P1.put2 v'
  exact ⟨⟨P2.cells.1, P2.cells.2.1⟩, p1.trans p2⟩
theorem tk_bd (L : List UInt8) (a n : Nat) : ∀ x ∈ tk L a n, x.1 ≤ 4294967295 ∧ x.2 ≤ 4294967295 := fun x hx => by
  unfold tk at hx
  obtain ⟨i, _, rfl⟩ := List.mem_map.1 hx
  have h1 := n4_lt L (a + 4 + 8 * i)
  have h2 := n4_lt L (a + 8 + 8 * i)
  exact ⟨by show n4 L (a + 4 + 8 * i) ≤ _; omega, by show n4 L (a + 8 + 8 * i) ≤ _; omega⟩
set_option maxHeartbeats 4000000 in
set_option maxRecDepth 100000 in
theorem at_s (s : ByteArray) (a n : Nat) (w : World) (h1 : 1 ≤ n) (h2 : n ≤ 16) (hs : s.size ≤ 1099511627776) (hl : a + (8 * n + 6) ≤ s.size) :
    Calls Tryd.prog 86 #[.string s, .int .i64 (a : Int), .int .i64 (n : Int)] w fun e w' => (∃ A c, e = .returned (.tuple #[.agg #[.int .i64 (n4 s.data.toList a : Nat), .slice A n c], .bool (fok s.data.toList a n)]) ∧
      w'.ownsRow (w.heap.size + 1) 110 1 (.slice A n c) n (lst (ccell (tk s.data.toList a n)) n)) ∧ w.grownBy w' none := by
  have HZ := Lib.hid (fun w => fsz_s (n : Int) w (by omega) (by omega))
  have HN := Lib.hid (fun (k : Nat) (w : World) (h : k + 4 ≤ s.size) => number_s s k w h hs)
  have HF := Lib.hid (fun (k : Nat) (w : World) (h : k < 4294967296) => from_s k w h)
  have hF := Fr.start w
  obtain ⟨E, hE⟩ : ∃ E, a + (8 * n + 6) = E := ⟨_, rfl⟩
  have he : (a : Int) + (8 * (n : Int) + 6) = (E : Int) := by omega
  have hw : IntKind.i64.wrap ((a : Int) + (8 * (n : Int) + 6)) = (E : Int) := by rw [IntKind.wrap_i64]; omega
  have hlt : ¬ (s.size : Int) < (E : Int) := by omega
  go_enter Tryd.func86, Tryd.ntmps86
  go_wp2_with fail
  refine (HZ.out _).mono ?_
  rintro e w' ⟨rfl, rfl⟩
  generalize ((w.alloc (.cells #[.int .i64 0, .slice none 0 0] 51)).alloc (.cells #[] 110)).alloc (.cells #[.int .i64 0, .slice (some ⟨w.heap.size + 1, 0, none⟩) 0 0] 51) = wx at *
  obtain ⟨q0, q1, q2, q3⟩ := hF.fb.cells
  have HI := Lib.hid (hF.index (n4 s.data.toList a : Nat))
  clear hF
  generalize hr : w.heap.size = r at *
  go_wp2_with fail
  refine (HN.out a _ (by omega)).mono ?_
  rintro e w' ⟨rfl, rfl⟩
  obtain ⟨idx, hid⟩ : ∃ idx, n4 s.data.toList a = idx := ⟨_, rfl⟩
  have HID := Lib.hid hid
  rw [hid] at HI ⊢
  clear hid
  go_wp2_with fail
  clear q0 q1 q2 q3
  generalize wx.setCell ⟨r + 1 + 1, 0, none⟩ (.int .i64 (idx : Int)) = wz at *
  go_loopw [10] (fun i wr => ∃ (k : Nat) (A : Option Addr) (c : Nat), k ≤ n ∧ i = .int .i64 k ∧ Fr w wr r (r + 1 + 1) (idx : Int) A c (tk s.data.toList a k)) (fun i _ => n - (intOf i).toNat)
  case atStart => exact ⟨0, _, _, Nat.zero_le _, rfl, HI.out⟩
  case round =>
    obtain ⟨k, A, c, hk, rfl, hfr⟩ := hrel
    have hlen := tk_len s.data.toList a k
    by_cases hlt2 : k < n
    · obtain ⟨p, hp⟩ : ∃ p, a + 4 + 8 * k = p := ⟨_, rfl⟩
      obtain ⟨p', hp'⟩ : ∃ p', a + 8 + 8 * k = p' := ⟨_, rfl⟩
      have hsn := tk_snoc s.data.toList a k
      rw [hp, hp'] at hsn
      have N1 := Lib.hid (fun w => number_s s p w (by omega) hs)
      have N2 := Lib.hid (fun w => number_s s p' w (by omega) hs)
      have F1 := Lib.hid (fun w => from_s (n4 s.data.toList p) w (n4_lt _ _))
      have F2 := Lib.hid (fun w => from_s (n4 s.data.toList p') w (n4_lt _ _))
      obtain ⟨A', c', w6, hrun, z0, z1, z2⟩ := hfr.more (n4 s.data.toList p) (n4 s.data.toList p') (by rw [hlen]; omega)
      rw [← hsn] at z2
      obtain ⟨q0, q1, q2, q3⟩ := hfr.fb.cells
      rw [hlen] at hrun z0 z2 q1
      have HS := Lib.hid z2
      generalize n4 s.data.toList p = x at *
      generalize n4 s.data.toList p' = y at *
      have k0 : (0 : Int) ≤ (k : Int) := by omega
      have k1 : (k : Int) < (n : Int) := by omega
      have u1 : IntKind.i64.wrap ((a : Int) + 4) = (a : Int) + 4 := by rw [IntKind.wrap_i64]; omega
      have u2 : IntKind.i64.wrap (8 * (k : Int)) = 8 * (k : Int) := by rw [IntKind.wrap_i64]; omega
      have u3 : (a : Int) + 4 + 8 * (k : Int) = (p : Int) := by omega
      have u4 : IntKind.i64.wrap ((a : Int) + 4 + 8 * (k : Int)) = (p : Int) := by rw [IntKind.wrap_i64]; omega
      have u5 : IntKind.i64.wrap ((a : Int) + 8) = (a : Int) + 8 := by rw [IntKind.wrap_i64]; omega
      have u6 : (a : Int) + 8 + 8 * (k : Int) = (p' : Int) := by omega
      have u7 : IntKind.i64.wrap ((a : Int) + 8 + 8 * (k : Int)) = (p' : Int) := by rw [IntKind.wrap_i64]; omega
      have u8 : IntKind.i64.wrap (p : Int) = (p : Int) := by rw [IntKind.wrap_i64]; omega
      have u9 : IntKind.i64.wrap (p' : Int) = (p' : Int) := by rw [IntKind.wrap_i64]; omega
      clear hfr hsn hp hp' z2 hlen
      go_wp2_with fail
      refine (N1.out _).mono ?_
      rintro e w' ⟨rfl, rfl⟩
      go_wp2_with fail
      refine (F1.out _).mono ?_
      rintro e w' ⟨rfl, rfl⟩
      go_wp2_with fail
      refine (N2.out _).mono ?_
      rintro e w' ⟨rfl, rfl⟩
      go_wp2_with fail
      refine (F2.out _).mono ?_
      rintro e w' ⟨rfl, rfl⟩
      go_wp2_with fail
      exact ⟨⟨k + 1, A', c', by omega, by go_num, HS.out⟩, by simp [intOf]; omega⟩
    · obtain rfl : k = n := by omega
      have hfb := hfr.fb
      have hrb := hfr.rb
      have hrr := hfr.row
      rw [hlen] at hfb hrr
      have HFB := Lib.hid hfb
      have HRB := Lib.hid hrb
      have HROW := Lib.hid hrr
      have HGB := Lib.hid hfr.gb
      have HXB := Lib.hid (tk_bd s.data.toList a k)
      have HTL := Lib.hid hlen
      have HFS := Lib.hid (fun (w' : World) (g : wr.grownBy w' none) (hi : idx < 4294967296) => frame_s (r + 1 + 1) wr.heap.size idx c A (tk s.data.toList a k) w' HXB.out (by rw [HTL.out]; exact h2) hi (hfb.keep g (by simp)).cells.1 (by rw [HTL.out]; exact (hfb.keep g (by simp)).cells.2.1) (by rw [HTL.out]; exact (Rd.of_lst hrr (Nat.mul_one _).symm).kept0 g (Nat.le_refl _)) g.size)
      have gd := gb_drewN wr 1 none
      have HGD := Lib.hid (show wr.grownBy wr.drew none from gd)
      obtain ⟨q0, q1, _, _⟩ := hfb.cells
      obtain ⟨_, _, r2, r3⟩ := hrb.cells
      have a0 : (0 : Int) ≤ (a : Int) := by omega
      have a1 : (a : Int) ≤ (E : Int) := by omega
      have a2 : (E : Int) ≤ (s.size : Int) := by omega
      have hrw : w.heap.size ≤ r := by omega
      have HR := Lib.hid hr
      clear hfr hrr hfb hrb gd
      by_cases hi : idx ≤ 1000000
      · have i1 : (idx : Int) ≤ 1000000 := by omega
        obtain ⟨b, hb⟩ : ∃ b, decide (fb (can .f32) idx (tk s.data.toList a k) = (s.data.toList.drop a).take (8 * k + 6)) = b := ⟨_, rfl⟩
        have hok : fok s.data.toList a k = b := by
          unfold fok
          rw [HID.out, ← hb]
          simp [hi]
        have hcmp : ((bs (fb (can .f32) idx (tk s.data.toList a k))).toList == (s.extract a E).toList) = b := by
          rw [Lib.toList_data, bs_list, Lib.extract_toList, show E - a = 8 * k + 6 by omega, ← hb]
          rw [Bool.eq_iff_iff]
          simp
        have HOK := Lib.hid hok
        clear hb hok
        generalize bs (fb (can .f32) idx (tk s.data.toList a k)) = T at *
        go_wp2_with fail
        have q0d : wr.drew.cell? ⟨r + 1 + 1, 0, none⟩ = some (.int .i64 (idx : Int)) := q0
        have q1d : wr.drew.cell? ⟨r + 1 + 1, 1, none⟩ = some (.slice A k c) := q1
        go_region_with (go_at_call 129; refine (HFS.out _ HGD.out (by omega)).mono ?_; rintro e w6 ⟨rfl, hg⟩; obtain ⟨s0, s1, _, _⟩ := (HFB.out.keep (HGD.out.trans hg) (by simp)).cells; obtain ⟨_, _, t2, t3⟩ := (HRB.out.keep (HGD.out.trans hg) (by simp)).cells; have HG6 := Lib.hid (And.intro (HGD.out.trans hg) (res_put ((HRB.out.keep (HGD.out.trans hg) (by simp))) (.int .i64 (idx : Int)) (.slice A k c))))
        all_goals
          go_wp2_with fail
          obtain ⟨g6, ⟨c0, c1⟩, gP⟩ := HG6.out
          exact bodyPost_ret (v := .tuple #[.agg #[.int .i64 (idx : Int), .slice A k c], .bool b]) (by simp [results, Tryd.results86, go_sem, c0, c1]) rfl ⟨⟨A, c, by rw [HID.out, HOK.out], by rw [HR.out]; exact World.ownsRow.kept (own_kept0 HROW.out g6) gP (.inr (fun e => by rw [own_blk] at e; have := (own_base HROW.out r e).1; omega))⟩, gb_new (HGB.out.trans g6) gP (by intro g e; injection e with e; omega)⟩
      · have i1 : ¬ (idx : Int) ≤ 1000000 := by omega
        have i2 : decide ((idx : Int) ≤ 1000000) = false := decide_eq_false i1
        have i3 : decide (idx ≤ 1000000) = false := decide_eq_false hi
        have i4 : 1000000 < idx := by omega
        have i5 : (1000000 : Int) < (idx : Int) := by omega
        have hok : fok s.data.toList a k = false := by
          unfold fok
          rw [HID.out]
          simp [hi]
        have HOK := Lib.hid hok
        clear hok
        go_wp2_with fail
        have q0d : wr.drew.cell? ⟨r + 1 + 1, 0, none⟩ = some (.int .i64 (idx : Int)) := q0
        have q1d : wr.drew.cell? ⟨r + 1 + 1, 1, none⟩ = some (.slice A k c) := q1
        have HG6 := Lib.hid (res_put HRB.out (.int .i64 (idx : Int)) (.slice A k c))
        go_region
        all_goals
          go_wp2_with fail
          obtain ⟨⟨c0, c1⟩, gP⟩ := HG6.out
          have g6 := World.grownBy.refl wr none
          have c1' : ((wr.setCell ⟨r, 0, none⟩ (.int .i64 (idx : Int))).setCell ⟨r, 1, none⟩ (.slice A k c)).drew.cell? ⟨r, 1, none⟩ = some (.slice A k c) := c1
          have c0'' : ((wr.setCell ⟨r, 0, none⟩ (.int .i64 (idx : Int))).setCell ⟨r, 1, none⟩ (.slice A k c)).drew.cell? ⟨r, 0, none⟩ = some (.int .i64 (idx : Int)) := c0
          have gP := gP.trans (gb_drewN _ 1 (some r))
          exact bodyPost_ret (v := .tuple #[.agg #[.int .i64 (idx : Int), .slice A k c], .bool false]) (by simp [results, Tryd.results86, go_sem, c1', c0'']) rfl ⟨⟨A, c, by rw [HID.out, HOK.out], by rw [HR.out]; exact World.ownsRow.kept (own_kept0 HROW.out g6) gP (.inr (fun e => by rw [own_blk] at e; have := (own_base HROW.out r e).1; omega))⟩, gb_new (HGB.out.trans g6) gP (by intro g e; injection e with e; omega)⟩

end Go.Proofs.YthlfclnfkgiddaaDoor.atS
