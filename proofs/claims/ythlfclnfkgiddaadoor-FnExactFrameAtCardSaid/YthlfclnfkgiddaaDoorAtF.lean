/- A frame of bytes, by the model. -/
import Derived.Test.YthlfclnfkgiddaaDoorRows
import Derived.Test.YthlfclnfkgiddaaDoorSlc
import Derived.Test.YthlfclnfkgiddaaDoorSmall
import Derived.Test.YthlfclnfkgiddaaDoorElemC
import Derived.Test.YthlfclnfkgiddaaDoorWordN
import Derived.Test.YthlfclnfkgiddaaDoorNumN
import Derived.Test.YthlfclnfkgiddaaDoorWordS
import Derived.Test.YthlfclnfkgiddaaDoorCheckC
import Derived.Test.YthlfclnfkgiddaaDoorFloats
import Derived.Test.YthlfclnfkgiddaaDoorRound
import Derived.Test.YthlfclnfkgiddaaDoorValues
import Derived.Test.YthlfclnfkgiddaaDoorConv
import Derived.Test.YthlfclnfkgiddaaDoorFWalk
import Derived.Test.YthlfclnfkgiddaaDoorBits
import Derived.Test.YthlfclnfkgiddaaDoorPhase
import Derived.Test.YthlfclnfkgiddaaDoorSine
import Derived.Test.YthlfclnfkgiddaaDoorPhasor
import Derived.Test.YthlfclnfkgiddaaDoorFinWalk
import Derived.Test.YthlfclnfkgiddaaDoorFloat2
import Derived.Test.YthlfclnfkgiddaaDoorFloat3
import Derived.Test.YthlfclnfkgiddaaDoorListC
import Derived.Test.YthlfclnfkgiddaaDoorFrameS
import Derived.Test.YthlfclnfkgiddaaDoorFrameM
import Derived.Test.YthlfclnfkgiddaaDoorHeadC
import Derived.Test.YthlfclnfkgiddaaDoorDiffC
import Derived.Test.YthlfclnfkgiddaaDoorDiffD
import Derived.Test.YthlfclnfkgiddaaDoorAtS
import Derived.WalkKit
import Derived.ProofKit
import Derived.OpenShut
import Derived.ShutString
import Derived.ChangeOld
import Derived.Below
import Derived.Lib.Hide
import Derived.BigQuiet
import Derived.Deep.QuietTactic
import Derived.WalkLawsBesides
import Derived.Outline
import Derived.Deep.QuietTactic
import Derived.BigQuiet
import Derived.Deep.LoopGhost
import Derived.Deep.RegionWith
import Derived.Deep.RegionHeld3
import Derived.Laws.ComplexArith
import Derived.Lib.Strings
namespace Go.Proofs.YthlfclnfkgiddaaDoor.atF
open Go.ChangeShapes Go.WideShapes Go.ChangeAt Go.RowKit
open Go.ChangeMaps (open_string shut_string)
set_option linter.unusedVariables false
open Go Ieee Go.RowKit
open Go.Proofs.YthlfclnfkgiddaaDoor.slc Go.Proofs.YthlfclnfkgiddaaDoor.small Go.Proofs.YthlfclnfkgiddaaDoor.elemC Go.Proofs.YthlfclnfkgiddaaDoor.wordN Go.Proofs.YthlfclnfkgiddaaDoor.numN Go.Proofs.YthlfclnfkgiddaaDoor.wordS Go.Proofs.YthlfclnfkgiddaaDoor.floats Go.Proofs.YthlfclnfkgiddaaDoor.bits Go.Proofs.YthlfclnfkgiddaaDoor.listC Go.Proofs.YthlfclnfkgiddaaDoor.frameS Go.Proofs.YthlfclnfkgiddaaDoor.frameM Go.Proofs.YthlfclnfkgiddaaDoor.headC Go.Proofs.YthlfclnfkgiddaaDoor.atS

theorem row_base {w : World} {b b' : Nat} {e : TypeId} {size n c : Nat} {A : Option Addr} {xs : List Value} (h : w.ownsRow b e size (.slice A n c) n xs) (hb : b' ≤ b) : w.ownsRow b' e size (.slice A n c) n xs := by
  refine ⟨h.1, ?_⟩
  rcases h.2 with ⟨h1, h2⟩ | ⟨g, cap, cur, h1, h2, h3⟩
  · exact .inl ⟨h1, h2⟩
  · exact .inr ⟨g, cap, cur, h1, Nat.le_trans hb h2, h3⟩
/-- Where the frame k of bytes with n elements begins. -/
def pla (n k : Nat) : Nat := 5 + k * (8 * n + 6)
open Classical in
/-- What FrameAt tells. -/
noncomputable def FA (L : List UInt8) (k : Int) : Nat × List (Nat × Nat) × Bool :=
  if hB L = true ∧ 0 ≤ k ∧ pla (eB L) k.toNat + (8 * eB L + 6) ≤ L.length ∧ fok L (pla (eB L) k.toNat) (eB L) = true then (n4 L (pla (eB L) k.toNat), tk L (pla (eB L) k.toNat) (eB L), true) else (0, [], false)
theorem FA_no {L : List UInt8} {k : Int} (h : ¬ (hB L = true ∧ 0 ≤ k ∧ pla (eB L) k.toNat + (8 * eB L + 6) ≤ L.length ∧ fok L (pla (eB L) k.toNat) (eB L) = true)) : FA L k = (0, [], false) := by unfold FA; rw [if_neg h]
theorem FA_yes {L : List UInt8} {k : Int} (h : hB L = true ∧ 0 ≤ k ∧ pla (eB L) k.toNat + (8 * eB L + 6) ≤ L.length ∧ fok L (pla (eB L) k.toNat) (eB L) = true) : FA L k = (n4 L (pla (eB L) k.toNat), tk L (pla (eB L) k.toNat) (eB L), true) := by unfold FA; rw [if_pos h]
/-- What a call that returns a frame and whether there is one leaves. -/
def FaP (w : World) (R : Nat × List (Nat × Nat) × Bool) (e : Ending) (w' : World) : Prop :=
  ∃ A c, e = .returned (.tuple #[.agg #[.int .i64 (R.1 : Int), .slice A R.2.1.length c], .bool R.2.2]) ∧ w'.ownsRow w.heap.size 110 1 (.slice A R.2.1.length c) R.2.1.length (lst (ccell R.2.1) R.2.1.length) ∧ w.grownBy w' none
theorem fap_none (w w' : World) (hg : w.grownBy w' none) : FaP w (0, [], false) (.returned (.tuple #[.agg #[.int .i64 0, .slice none 0 0], .bool false])) w' := ⟨(Option.none : Option Addr), 0, rfl, World.ownsRow_nil _ _ _ _, hg⟩
attribute [local go_sem] run_store_slice run_store_complex
set_option maxHeartbeats 2000000 in
set_option maxRecDepth 100000 in
theorem fa_spec (s : ByteArray) (k : Int) (w : World) (hs : s.size ≤ 1048576) (hk1 : -9223372036854775808 ≤ k) (hk2 : k ≤ 9223372036854775807) :
    Calls Tryd.prog 39 #[.string s, .int .i64 k] w fun e w' => FaP w (FA s.data.toList k) e w' := by
  have hsm : s.size ≤ maxLen := by unfold maxLen; omega
  have HA0 := fun w => open_c s w hsm
  have hR := Fk.new w (.int .i64 0) (.slice none 0 0)
  have gR := World.grownBy_alloc w (.cells #[.int .i64 0, .slice none 0 0] 51) none
  have hlen := sz s
  cases hh : hB s.data.toList with
  | false =>
    rw [FA_no (by rw [hh]; simp)]
    rw [hh] at HA0
    have HA := Lib.hid HA0
    generalize (if 5 ≤ s.size ∧ pB s.data.toList = true then eB s.data.toList else 0) = n1 at *
    have HR := Lib.hid (And.intro hR gR)
    clear HA0 hh hR gR
    go_enter Tryd.func39, Tryd.ntmps39
    go_wp2_with fail
    refine (HA.out _).mono ?_
    rintro e w1 ⟨rfl, g1⟩
    have hf := HR.out.1.keep g1 (by simp)
    obtain ⟨r0, r1, r2, r3⟩ := hf.cells
    have HP := Lib.hid (And.intro (res_put hf (.int .i64 0) (.slice none 0 0)) (HR.out.2.trans g1))
    clear hf g1
    generalize hr : w.heap.size = r at *
    go_wp2_with fail
    obtain ⟨⟨⟨z0, z1⟩, gP⟩, g⟩ := HP.out
    exact bodyPost_ret (v := .tuple #[.agg #[.int .i64 0, .slice none 0 0], .bool false]) (by simp [results, Tryd.results39, go_sem, z0, z1]) rfl (fap_none _ _ (gb_new g gP (by intro q e; injection e with e; omega)))
  | true =>
    obtain ⟨l5, hp, e1, e2⟩ := hB_yes hh
    rw [hh, if_pos ⟨by rw [← sz]; exact l5, hp⟩] at HA0
    obtain ⟨n, hn⟩ : ∃ n, eB s.data.toList = n := ⟨_, rfl⟩
    rw [hn] at HA0 e1 e2
    have HA := Lib.hid HA0
    have HR := Lib.hid (And.intro hR gR)
    clear HA0 hR gR
    by_cases hk : 0 ≤ k ∧ k ≤ (s.size : Int)
    · obtain ⟨K, rfl⟩ : ∃ K : Nat, k = K := ⟨k.toNat, by omega⟩
      obtain ⟨D, hD⟩ : ∃ D, 8 * n + 6 = D := ⟨_, rfl⟩
      have hz := fun w => fsz_s (n : Int) w (by omega) (by omega)
      rw [show 8 * (n : Int) + 6 = (D : Int) by omega] at hz
      have HZ := Lib.hid hz
      have HI := Lib.hid (fun w => in_yes (K : Int) 0 (s.size : Int) w (by omega) hk.2)
      obtain ⟨M, hM⟩ : ∃ M, K * D = M := ⟨_, rfl⟩
      have hMb : M ≤ 1048576 * 134 := by rw [← hM]; exact Nat.mul_le_mul (by omega) (by omega)
      have hm : (K : Int) * (D : Int) = (M : Int) := by rw [← hM]; simp
      have wm : IntKind.i64.wrap ((K : Int) * (D : Int)) = (M : Int) := by rw [hm, IntKind.wrap_i64]; omega
      have wm2 : IntKind.i64.wrap (M : Int) = (M : Int) := by rw [IntKind.wrap_i64]; omega
      obtain ⟨a, ha⟩ : ∃ a, 5 + M = a := ⟨_, rfl⟩
      have hai : (5 : Int) + (M : Int) = (a : Int) := by omega
      have wa : IntKind.i64.wrap ((5 : Int) + (M : Int)) = (a : Int) := by rw [IntKind.wrap_i64]; omega
      have wa2 : IntKind.i64.wrap (a : Int) = (a : Int) := by rw [IntKind.wrap_i64]; omega
      have hpl : pla (eB s.data.toList) (K : Int).toNat = a := by unfold pla; rw [hn, hD, Int.toNat_natCast, hM, ha]
      by_cases hl : s.size < a + (8 * n + 6)
      · rw [FA_no (by rw [hpl, hn, hlen]; intro h; omega)]
        have HL := Lib.hid (fun w => at_long s a n w e1 e2 (by omega) (by omega) hl)
        clear hh hp hn hD hz hM hMb ha hpl hl hlen
        go_enter Tryd.func39, Tryd.ntmps39
        go_wp2_with fail
        refine (HA.out _).mono ?_
        rintro e w1 ⟨rfl, g1⟩
        go_wp2_with fail
        refine (HI.out _).mono ?_
        rintro e w' ⟨rfl, rfl⟩
        go_wp2_with fail
        refine (HZ.out _).mono ?_
        rintro e w' ⟨rfl, rfl⟩
        go_wp2_with fail
        refine (HL.out _).mono ?_
        rintro e w2 ⟨⟨A, c, rfl⟩, g2⟩
        have g3 := World.grownBy_alloc w2 (.cells #[.int .i64 0, .slice A 0 c] 51) none
        have hf := HR.out.1.keep (g1.trans (g2.trans g3)) (by simp)
        obtain ⟨r0, r1, r2, r3⟩ := hf.cells
        have HP := Lib.hid (And.intro (res_put hf (.int .i64 0) (.slice none 0 0)) (HR.out.2.trans (g1.trans (g2.trans g3))))
        clear hf g1 g2 g3
        generalize hr : w.heap.size = r at *
        go_wp2_with fail
        obtain ⟨⟨⟨z0, z1⟩, gP⟩, g⟩ := HP.out
        exact bodyPost_ret (v := .tuple #[.agg #[.int .i64 0, .slice none 0 0], .bool false]) (by simp [results, Tryd.results39, go_sem, z0, z1]) rfl (fap_none _ _ (gb_new g gP (by intro q e; injection e with e; omega)))
      · have HL := Lib.hid (fun w => at_s s a n w e1 e2 (by omega) (by omega))
        cases hf : fok s.data.toList a n with
        | false =>
          rw [FA_no (by rw [hpl, hn, hf]; simp)]
          rw [hf] at HL
          clear hh hp hn hD hz hM hMb ha hpl hl hlen hf
          go_enter Tryd.func39, Tryd.ntmps39
          go_wp2_with fail
          refine (HA.out _).mono ?_
          rintro e w1 ⟨rfl, g1⟩
          go_wp2_with fail
          refine (HI.out _).mono ?_
          rintro e w' ⟨rfl, rfl⟩
          go_wp2_with fail
          refine (HZ.out _).mono ?_
          rintro e w' ⟨rfl, rfl⟩
          go_wp2_with fail
          refine (HL.out _).mono ?_
          rintro e w2 ⟨⟨A, c, rfl, _⟩, g2⟩
          generalize n4 s.data.toList a = idx at *
          have g3 := World.grownBy_alloc w2 (.cells #[.int .i64 (idx : Int), .slice A n c] 51) none
          have hf := HR.out.1.keep (g1.trans (g2.trans g3)) (by simp)
          obtain ⟨r0, r1, r2, r3⟩ := hf.cells
          have HP := Lib.hid (And.intro (res_put hf (.int .i64 0) (.slice none 0 0)) (HR.out.2.trans (g1.trans (g2.trans g3))))
          clear hf g1 g2 g3
          generalize hr : w.heap.size = r at *
          go_wp2_with fail
          obtain ⟨⟨⟨z0, z1⟩, gP⟩, g⟩ := HP.out
          exact bodyPost_ret (v := .tuple #[.agg #[.int .i64 0, .slice none 0 0], .bool false]) (by simp [results, Tryd.results39, go_sem, z0, z1]) rfl (fap_none _ _ (gb_new g gP (by intro q e; injection e with e; omega)))
        | true =>
          rw [FA_yes (by rw [hpl, hn, hlen]; exact ⟨hh, by omega, by omega, hf⟩), hpl, hn]
          rw [hf] at HL
          have HT := Lib.hid (tk_len s.data.toList a n)
          clear hh hp hn hD hz hM hMb ha hpl hl hlen hf
          go_enter Tryd.func39, Tryd.ntmps39
          go_wp2_with fail
          refine (HA.out _).mono ?_
          rintro e w1 ⟨rfl, g1⟩
          go_wp2_with fail
          refine (HI.out _).mono ?_
          rintro e w' ⟨rfl, rfl⟩
          go_wp2_with fail
          refine (HZ.out _).mono ?_
          rintro e w' ⟨rfl, rfl⟩
          go_wp2_with fail
          refine (HL.out _).mono ?_
          rintro e w2 ⟨⟨A, c, rfl, hrow⟩, g2⟩
          obtain ⟨idx, hidx⟩ : ∃ idx, n4 s.data.toList a = idx := ⟨_, rfl⟩
          rw [hidx]
          have HX := Lib.hid hidx
          clear hidx
          have g3 := World.grownBy_alloc w2 (.cells #[.int .i64 (idx : Int), .slice A n c] 51) none
          have g23 := HR.out.2.trans (g1.trans (g2.trans g3))
          have hf := HR.out.1.keep (g1.trans (g2.trans g3)) (by simp)
          have hw1 : w.heap.size + 1 ≤ w1.heap.size + 1 := by have := (HR.out.2.trans g1).size; omega
          have hrw := own_kept0 (row_base hrow hw1) g3
          obtain ⟨r0, r1, r2, r3⟩ := hf.cells
          have HP := Lib.hid (And.intro (res_put hf (.int .i64 (idx : Int)) (.slice A n c)) (And.intro g23 hrw))
          obtain ⟨F0, F1, _, _⟩ := (Fk.new w2 (.int .i64 (idx : Int)) (.slice A n c)).cells
          clear hf g1 g2 g3 g23 hrow hrw hw1
          generalize hr : w.heap.size = r at *
          go_wp2_with fail
          obtain ⟨⟨⟨z0, z1⟩, gP⟩, g, hrw⟩ := HP.out
          exact bodyPost_ret (v := .tuple #[.agg #[.int .i64 (idx : Int), .slice A n c], .bool true]) (by simp [results, Tryd.results39, go_sem, z0, z1]) rfl
            ⟨A, c, by dsimp only; rw [HX.out, HT.out], by
              dsimp only
              rw [HT.out, hr]
              exact row_base (World.ownsRow.kept hrw gP (.inr (fun e => by rw [own_blk] at e; have := (own_base hrw r e).1; omega))) (by omega), gb_new g gP (by intro q e; injection e with e; omega)⟩
    · rw [FA_no (fun h => hk ⟨h.2.1, by
        have h3 := h.2.2.1
        unfold pla at h3
        rw [hn, hlen] at h3
        have : k.toNat * 1 ≤ k.toNat * (8 * n + 6) := Nat.mul_le_mul_left _ (by omega)
        have := h.2.1
        omega⟩)]
      have HI := Lib.hid (fun w => in_no k 0 (s.size : Int) w (by omega))
      clear hh hp hn hlen
      go_enter Tryd.func39, Tryd.ntmps39
      go_wp2_with fail
      refine (HA.out _).mono ?_
      rintro e w1 ⟨rfl, g1⟩
      go_wp2_with fail
      refine (HI.out _).mono ?_
      rintro e w' ⟨rfl, rfl⟩
      have hf := HR.out.1.keep g1 (by simp)
      obtain ⟨r0, r1, r2, r3⟩ := hf.cells
      have HP := Lib.hid (And.intro (res_put hf (.int .i64 0) (.slice none 0 0)) (HR.out.2.trans g1))
      clear hf g1
      generalize hr : w.heap.size = r at *
      go_wp2_with fail
      obtain ⟨⟨⟨z0, z1⟩, gP⟩, g⟩ := HP.out
      exact bodyPost_ret (v := .tuple #[.agg #[.int .i64 0, .slice none 0 0], .bool false]) (by simp [results, Tryd.results39, go_sem, z0, z1]) rfl (fap_none _ _ (gb_new g gP (by intro q e; injection e with e; omega)))

end Go.Proofs.YthlfclnfkgiddaaDoor.atF
