/- A frame at its place, by the program. -/
import Derived.Test.YthlfclnfkgiddaaDoorRows
import Derived.Test.YthlfclnfkgiddaaDoorSlc
import Derived.Test.YthlfclnfkgiddaaDoorSmall
import Derived.Test.YthlfclnfkgiddaaDoorElemC
import Derived.Test.YthlfclnfkgiddaaDoorWordN
import Derived.Test.YthlfclnfkgiddaaDoorNumN
import Derived.Test.YthlfclnfkgiddaaDoorTakeN
import Derived.Test.YthlfclnfkgiddaaDoorWordS
import Derived.Test.YthlfclnfkgiddaaDoorWordI
import Derived.Test.YthlfclnfkgiddaaDoorFloats
import Derived.Test.YthlfclnfkgiddaaDoorRound
import Derived.Test.YthlfclnfkgiddaaDoorValues
import Derived.Test.YthlfclnfkgiddaaDoorConv
import Derived.Test.YthlfclnfkgiddaaDoorFWalk
import Derived.Test.YthlfclnfkgiddaaDoorBits
import Derived.Test.YthlfclnfkgiddaaDoorPhase
import Derived.Test.YthlfclnfkgiddaaDoorSine
import Derived.Test.YthlfclnfkgiddaaDoorPhasor
import Derived.Test.YthlfclnfkgiddaaDoorFinWalk
import Derived.Test.YthlfclnfkgiddaaDoorFloat2
import Derived.Test.YthlfclnfkgiddaaDoorFloat3
import Derived.Test.YthlfclnfkgiddaaDoorListC
import Derived.Test.YthlfclnfkgiddaaDoorCheckC
import Derived.Test.YthlfclnfkgiddaaDoorFrameS
import Derived.Test.YthlfclnfkgiddaaDoorFrameM
import Derived.Test.YthlfclnfkgiddaaDoorHeadC
import Derived.Test.YthlfclnfkgiddaaDoorDiffC
import Derived.Test.YthlfclnfkgiddaaDoorDiffD
import Derived.Test.YthlfclnfkgiddaaDoorAtS
import Derived.Test.YthlfclnfkgiddaaDoorAtF
import Derived.Test.YthlfclnfkgiddaaDoorStoreI
import Derived.Test.YthlfclnfkgiddaaDoorChunkS
import Derived.Test.YthlfclnfkgiddaaDoorTakeI
import Derived.Test.YthlfclnfkgiddaaDoorFirstI
import Derived.WalkKit
import Derived.ProofKit
import Derived.OpenShut
import Derived.ShutString
import Derived.ChangeOld
import Derived.Below
import Derived.Lib.Hide
import Derived.BigQuiet
import Derived.Deep.QuietTactic
import Derived.WalkLawsBesides
import Derived.Outline
import Derived.Deep.QuietTactic
import Derived.BigQuiet
import Derived.Deep.LoopGhost
import Derived.Deep.RegionWith
import Derived.Deep.RegionHeld3
import Derived.Laws.ComplexArith
import Derived.Lib.Strings
namespace Go.Proofs.YthlfclnfkgiddaaDoor.atI
open Go.ChangeShapes Go.WideShapes Go.ChangeAt Go.RowKit
open Go.ChangeMaps (open_string shut_string)
set_option linter.unusedVariables false
open Go Ieee Go.RowKit
open Go.Proofs.YthlfclnfkgiddaaDoor.slc Go.Proofs.YthlfclnfkgiddaaDoor.small Go.Proofs.YthlfclnfkgiddaaDoor.elemC Go.Proofs.YthlfclnfkgiddaaDoor.wordN Go.Proofs.YthlfclnfkgiddaaDoor.numN Go.Proofs.YthlfclnfkgiddaaDoor.takeN Go.Proofs.YthlfclnfkgiddaaDoor.wordS Go.Proofs.YthlfclnfkgiddaaDoor.floats Go.Proofs.YthlfclnfkgiddaaDoor.bits Go.Proofs.YthlfclnfkgiddaaDoor.listC Go.Proofs.YthlfclnfkgiddaaDoor.frameM Go.Proofs.YthlfclnfkgiddaaDoor.headC Go.Proofs.YthlfclnfkgiddaaDoor.diffD Go.Proofs.YthlfclnfkgiddaaDoor.atS Go.Proofs.YthlfclnfkgiddaaDoor.atF Go.Proofs.YthlfclnfkgiddaaDoor.firstI

theorem fok_drop (L : List UInt8) (a n : Nat) : fok (L.drop a) 0 n = fok L a n := by
  unfold fok
  rw [n4_drop, tk_drop, List.drop_zero]
  rfl
theorem n4_drop0 (L : List UInt8) (a : Nat) : n4 (L.drop a) 0 = n4 L a := by rw [n4_drop]; rfl
set_option maxHeartbeats 2000000 in
set_option maxRecDepth 100000 in
theorem fa_impl (s : ByteArray) (k : Int) (w : World) (hs : s.size ≤ 1048576) (hk1 : -9223372036854775808 ≤ k) (hk2 : k ≤ 9223372036854775807)
    (hv0 : ErrV 1 w) (hv4 : ErrV 4 w) :
    Calls Tryd.prog 26 #[.string s, .int .i64 k] w fun e w' => FaP w (FA s.data.toList k) e w' := by
  have hsm : s.size ≤ maxLen := by unfold maxLen; omega
  have hR := Fk.new w (.int .i64 0) (.slice none 0 0)
  have gR := World.grownBy_alloc w (.cells #[.int .i64 0, .slice none 0 0] 51) none
  have hlen := sz s
  have HR := Lib.hid (And.intro hR gR)
  cases hh : hB s.data.toList with
  | false =>
    rw [FA_no (by rw [hh]; simp)]
    have HA := Lib.hid (fun w h => split_no s w hsm hh h)
    have HV := Lib.hid (hv0.kept gR)
    clear hh hR gR hv0 hv4
    go_enter Tryd.func26, Tryd.ntmps26
    go_wp2_with fail
    refine (HA.out _ HV.out).mono ?_
    rintro e w1 ⟨⟨tp, p, rfl⟩, g1⟩
    have hf := HR.out.1.keep g1 (by simp)
    obtain ⟨r0, r1, r2, r3⟩ := hf.cells
    have HP := Lib.hid (And.intro (res_put hf (.int .i64 0) (.slice none 0 0)) (HR.out.2.trans g1))
    clear hf g1
    generalize hr : w.heap.size = r at *
    go_wp2_with fail
    obtain ⟨⟨⟨z0, z1⟩, gP⟩, g⟩ := HP.out
    exact bodyPost_ret (v := .tuple #[.agg #[.int .i64 0, .slice none 0 0], .bool false]) (by simp [results, Tryd.results26, go_sem, z0, z1]) rfl (fap_none _ _ (gb_new g gP (by intro q e; injection e with e; omega)))
  | true =>
    obtain ⟨l5, hp, e1, e2⟩ := hB_yes hh
    have HA := Lib.hid (fun w => split_yes s w hsm hh)
    obtain ⟨n, hn⟩ : ∃ n, eB s.data.toList = n := ⟨_, rfl⟩
    rw [hn] at HA e1 e2
    obtain ⟨D, hD⟩ : ∃ D, 8 * n + 6 = D := ⟨_, rfl⟩
    have hz := fun w => fsz_i (n : Int) w (by omega) (by omega)
    rw [show 8 * (n : Int) + 6 = (D : Int) by omega] at hz
    have HZ := Lib.hid hz
    obtain ⟨N, hN⟩ : ∃ N, s.size = N + 5 := ⟨s.size - 5, by rw [← sz]; omega⟩
    obtain ⟨d1, d2, _, _⟩ := quo_rem N D (by omega)
    obtain ⟨q, hq⟩ : ∃ q, N / D = q := ⟨_, rfl⟩
    rw [hq] at d1 d2
    have hqN : q ≤ N := by rw [← hq]; exact Nat.div_le_self _ _
    have WQ := Lib.hid (show wrap64 ((q : Int) - 1) = (q : Int) - 1 from by unfold wrap64; omega)
    have hD0 : ¬ (D : Int) = 0 := by omega
    have hD1 : ¬ (D : Int) = -1 := by omega
    have HV := Lib.hid (And.intro hv0 hv4)
    clear hR gR hz hv0 hv4
    by_cases hk : 0 ≤ k ∧ k ≤ (q : Int) - 1
    · obtain ⟨K, rfl⟩ : ∃ K : Nat, k = K := ⟨k.toNat, by omega⟩
      have HI := Lib.hid (fun w => within_yes (K : Int) 0 ((q : Int) - 1) w (by omega) hk.2)
      obtain ⟨M, hM⟩ : ∃ M, K * D = M := ⟨_, rfl⟩
      have hMD : M + D ≤ N := by
        rw [← hM, ← Nat.succ_mul]
        refine Nat.le_trans (Nat.mul_le_mul_right D (show K + 1 ≤ q by omega)) ?_
        rw [← hq]
        exact Nat.div_mul_le_self N D
      have hm : (K : Int) * (D : Int) = (M : Int) := by rw [← hM]; simp
      have WM := Lib.hid (And.intro hm (show IntKind.i64.wrap (M : Int) = (M : Int) from by rw [IntKind.wrap_i64]; omega))
      clear hm
      have hpl : pla (eB s.data.toList) (K : Int).toNat = 5 + M := by unfold pla; rw [hn, hD, Int.toNat_natCast, hM]
      cases hf : fok s.data.toList (5 + M) n with
      | false =>
        rw [FA_no (by rw [hpl, hn, hf]; simp)]
        have HVN := Lib.hid (fun (w' : World) (g : w.grownBy w' none) => HV.out.2.kept g)
        clear hpl hq hqN hlen hh hp hn
        go_enter Tryd.func26, Tryd.ntmps26
        go_wp2_with fail
        refine (HA.out _).mono ?_
        rintro e w1 ⟨⟨t, ht, rfl⟩, g1⟩
        have htN : t.size = N := by rw [← sz, ht, List.length_drop, sz, hN]; omega
        have htl : (t.extract M t.size).data.toList = s.data.toList.drop (5 + M) := by rw [ext_drop, ht, List.drop_drop]
        have htz : (t.extract M t.size).size = N - M := by rw [ByteArray.size_extract, htN]; omega
        rw [htN] at htl htz
        have hMN : (M : Int) ≤ (N : Int) := by omega
        have HFF := Lib.hid (fun w tp p h => first_bad (t.extract M N) n w tp p e1 e2 (by rw [htz]; omega) (by rw [htz]; omega) (by rw [htl, fok_drop]; exact hf) h)
        go_wp2_with fail
        refine (HZ.out _).mono ?_
        rintro e w' ⟨rfl, rfl⟩
        have wq := WQ.out
        go_wp2_with fail
        clear wq
        refine (HI.out _).mono ?_
        rintro e w' ⟨rfl, rfl⟩
        obtain ⟨hm, wm⟩ := WM.out
        go_wp2_with fail
        clear hm wm
        obtain ⟨tp, p, hv⟩ := HVN.out _ (HR.out.2.trans g1)
        refine (HFF.out _ tp p hv).mono ?_
        rintro e w2 ⟨rfl, g2⟩
        have g3 := World.grownBy_alloc w2 (.cells #[.int .i64 0, .slice none 0 0] 51) none
        have hF := Fk.new w2 (.int .i64 0) (.slice none 0 0)
        have hR := HR.out.1.keep (g1.trans (g2.trans g3)) (by simp)
        have gA := HR.out.2.trans (g1.trans (g2.trans g3))
        have q0d : (w2.alloc (.cells #[.int .i64 0, .slice none 0 0] 51)).drew.cell? ⟨w2.heap.size, 0, none⟩ = some (.int .i64 0) := hF.cells.1
        have q1d : (w2.alloc (.cells #[.int .i64 0, .slice none 0 0] 51)).drew.cell? ⟨w2.heap.size, 1, none⟩ = some (.slice none 0 0) := hF.cells.2.1
        obtain ⟨q0, q1, _, _⟩ := hF.cells
        obtain ⟨t0, t1, t2, t3⟩ := hR.cells
        have HG := Lib.hid (And.intro gA (res_put hR (.int .i64 0) (.slice none 0 0)))
        clear hF hR gA g3 hv
        go_wp2_with fail
        generalize w2.alloc (.cells #[.int .i64 0, .slice none 0 0] 51) = wx at *
        generalize hr0 : w.heap.size = r at *
        generalize w2.heap.size = qb at *
        go_region
        all_goals
          go_wp2_with fail
          obtain ⟨gA, ⟨c0, c1⟩, gP⟩ := HG.out
          have c0' : ((wx.setCell ⟨r, 0, none⟩ (.int .i64 0)).setCell ⟨r, 1, none⟩ (.slice none 0 0)).drew.cell? ⟨r, 0, none⟩ = some (.int .i64 0) := c0
          have c1' : ((wx.setCell ⟨r, 0, none⟩ (.int .i64 0)).setCell ⟨r, 1, none⟩ (.slice none 0 0)).drew.cell? ⟨r, 1, none⟩ = some (.slice none 0 0) := c1
          exact bodyPost_ret (v := .tuple #[.agg #[.int .i64 0, .slice none 0 0], .bool false]) (by simp [results, Tryd.results26, go_sem, c0', c1']) rfl (fap_none _ _ (gb_new gA (gP.trans (gb_drewN _ 1 (some r))) (by intro g e; injection e with e; omega)))
      | true =>
        rw [FA_yes (by rw [hpl, hn, hlen]; exact ⟨hh, by omega, by omega, hf⟩), hpl, hn]
        have HTK := Lib.hid (tk_len s.data.toList (5 + M) n)
        clear hpl hq hqN hlen hh hp hn
        go_enter Tryd.func26, Tryd.ntmps26
        go_wp2_with fail
        refine (HA.out _).mono ?_
        rintro e w1 ⟨⟨t, ht, rfl⟩, g1⟩
        have htN : t.size = N := by rw [← sz, ht, List.length_drop, sz, hN]; omega
        have htl : (t.extract M t.size).data.toList = s.data.toList.drop (5 + M) := by rw [ext_drop, ht, List.drop_drop]
        have htz : (t.extract M t.size).size = N - M := by rw [ByteArray.size_extract, htN]; omega
        rw [htN] at htl htz
        have hMN : (M : Int) ≤ (N : Int) := by omega
        have HFF := Lib.hid (fun w => (show Calls Tryd.prog 74 #[.string (t.extract M N), .int .i64 (n : Int)] w (fun e w' => (∃ A c, e = .returned (.tuple #[.agg #[.int .i64 (n4 s.data.toList (5 + M) : Nat), .slice A n c], .nilIface]) ∧ w'.ownsRow w.heap.size 110 1 (.slice A n c) n (lst (ccell (tk s.data.toList (5 + M) n)) n)) ∧ w.grownBy w' none) from by
          have h := first_ok (t.extract M N) n w e1 e2 (by rw [htz]; omega) (by rw [htz]; omega) (by rw [htl, fok_drop]; exact hf)
          rw [htl, n4_drop0, tk_drop] at h
          exact h))
        go_wp2_with fail
        refine (HZ.out _).mono ?_
        rintro e w' ⟨rfl, rfl⟩
        have wq := WQ.out
        go_wp2_with fail
        clear wq
        refine (HI.out _).mono ?_
        rintro e w' ⟨rfl, rfl⟩
        obtain ⟨hm, wm⟩ := WM.out
        go_wp2_with fail
        clear hm wm
        refine (HFF.out _).mono ?_
        rintro e w2 ⟨⟨A, c, rfl, hrow⟩, g2⟩
        obtain ⟨idx, hidx⟩ : ∃ idx, n4 s.data.toList (5 + M) = idx := ⟨_, rfl⟩
        have HX := Lib.hid hidx
        rw [hidx]
        clear hidx
        have g3 := World.grownBy_alloc w2 (.cells #[.int .i64 (idx : Int), .slice A n c] 51) none
        have hF := Fk.new w2 (.int .i64 (idx : Int)) (.slice A n c)
        have hR := HR.out.1.keep (g1.trans (g2.trans g3)) (by simp)
        have gA := HR.out.2.trans (g1.trans (g2.trans g3))
        have hw1 : w.heap.size + 1 ≤ w1.heap.size := by have := g1.size; simpa using this
        have hrow := own_kept0 (row_base hrow hw1) g3
        have q0d : (w2.alloc (.cells #[.int .i64 (idx : Int), .slice A n c] 51)).drew.cell? ⟨w2.heap.size, 0, none⟩ = some (.int .i64 (idx : Int)) := hF.cells.1
        have q1d : (w2.alloc (.cells #[.int .i64 (idx : Int), .slice A n c] 51)).drew.cell? ⟨w2.heap.size, 1, none⟩ = some (.slice A n c) := hF.cells.2.1
        obtain ⟨q0, q1, _, _⟩ := hF.cells
        obtain ⟨t0, t1, t2, t3⟩ := hR.cells
        have HG := Lib.hid (And.intro gA (And.intro (res_put hR (.int .i64 (idx : Int)) (.slice A n c)) hrow))
        clear hF hR gA g3 hrow hw1
        go_wp2_with fail
        generalize w2.alloc (.cells #[.int .i64 (idx : Int), .slice A n c] 51) = wx at *
        generalize hr0 : w.heap.size = r at *
        generalize w2.heap.size = qb at *
        go_region
        all_goals
          go_wp2_with fail
          obtain ⟨gA, ⟨⟨c0, c1⟩, gP⟩, hrow⟩ := HG.out
          have c0' : ((wx.setCell ⟨r, 0, none⟩ (.int .i64 (idx : Int))).setCell ⟨r, 1, none⟩ (.slice A n c)).drew.cell? ⟨r, 0, none⟩ = some (.int .i64 (idx : Int)) := c0
          have c1' : ((wx.setCell ⟨r, 0, none⟩ (.int .i64 (idx : Int))).setCell ⟨r, 1, none⟩ (.slice A n c)).drew.cell? ⟨r, 1, none⟩ = some (.slice A n c) := c1
          have gP := gP.trans (gb_drewN _ 1 (some r))
          exact bodyPost_ret (v := .tuple #[.agg #[.int .i64 (idx : Int), .slice A n c], .bool true]) (by simp [results, Tryd.results26, go_sem, c0', c1']) rfl ⟨A, c, by dsimp only; rw [HX.out, HTK.out], by
            dsimp only
            rw [HTK.out, hr0]
            exact row_base (World.ownsRow.kept hrow gP (.inr (fun e => by rw [own_blk] at e; have := (own_base hrow r e).1; omega))) (Nat.le_succ r), gb_new gA gP (by intro g e; injection e with e; omega)⟩
    · rw [FA_no (fun h => hk ⟨h.2.1, by
        have h3 := h.2.2.1
        unfold pla at h3
        rw [hn, hD, hlen, hN] at h3
        have h4 : (k.toNat + 1) * D ≤ N := by rw [Nat.succ_mul]; omega
        have h5 := (Nat.le_div_iff_mul_le (show 0 < D by omega)).2 h4
        rw [hq] at h5
        have := h.2.1
        omega⟩)]
      have HI := Lib.hid (fun w => within_no k 0 ((q : Int) - 1) w (by omega))
      clear hh hp hn hlen hq hqN
      go_enter Tryd.func26, Tryd.ntmps26
      go_wp2_with fail
      refine (HA.out _).mono ?_
      rintro e w1 ⟨⟨t, ht, rfl⟩, g1⟩
      have hrN : t.size = N := by rw [← sz, ht, List.length_drop, sz, hN]; omega
      go_wp2_with fail
      refine (HZ.out _).mono ?_
      rintro e w' ⟨rfl, rfl⟩
      have wq := WQ.out
      go_wp2_with fail
      clear wq
      refine (HI.out _).mono ?_
      rintro e w' ⟨rfl, rfl⟩
      have hf := HR.out.1.keep g1 (by simp)
      obtain ⟨r0, r1, r2, r3⟩ := hf.cells
      have HP := Lib.hid (And.intro (res_put hf (.int .i64 0) (.slice none 0 0)) (HR.out.2.trans g1))
      clear hf g1
      generalize hr : w.heap.size = r at *
      go_wp2_with fail
      obtain ⟨⟨⟨z0, z1⟩, gP⟩, g⟩ := HP.out
      exact bodyPost_ret (v := .tuple #[.agg #[.int .i64 0, .slice none 0 0], .bool false]) (by simp [results, Tryd.results26, go_sem, z0, z1]) rfl (fap_none _ _ (gb_new g gP (by intro q e; injection e with e; omega)))

end Go.Proofs.YthlfclnfkgiddaaDoor.atI
