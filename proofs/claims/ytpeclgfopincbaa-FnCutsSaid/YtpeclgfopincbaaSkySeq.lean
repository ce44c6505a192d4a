/- The directions that skyDirections gives. -/
import Derived.Test.YtpeclgfopincbaaRows
import Derived.Test.YtpeclgfopincbaaSlc
import Derived.Test.YtpeclgfopincbaaSmall
import Derived.Test.YtpeclgfopincbaaOpens
import Derived.Test.YtpeclgfopincbaaFloatAll
import Derived.Test.YtpeclgfopincbaaFWalk
import Derived.Test.YtpeclgfopincbaaFinWalk
import Derived.Test.YtpeclgfopincbaaRoot
import Derived.Test.YtpeclgfopincbaaFlAll
import Derived.Test.YtpeclgfopincbaaPhasor
import Derived.Test.YtpeclgfopincbaaListC
import Derived.Test.YtpeclgfopincbaaSteerNum
import Derived.Test.YtpeclgfopincbaaSineIn
import Derived.Test.YtpeclgfopincbaaPolyNum
import Derived.Test.YtpeclgfopincbaaPolyW
import Derived.Test.YtpeclgfopincbaaGAll
import Derived.Test.YtpeclgfopincbaaPowW
import Derived.Test.YtpeclgfopincbaaSkyNum
import Derived.WalkKit
import Derived.ProofKit
import Derived.OpenShut
import Derived.ShutString
import Derived.ChangeOld
import Derived.Below
import Derived.Lib.Hide
import Derived.BigQuiet
import Derived.Deep.QuietTactic
import Derived.WalkLawsBesides
import Derived.Outline
import Derived.RangeFuncKeeps
import Derived.RangeFuncLeaves
import Derived.RangeFuncCalls
import Derived.RangeFuncBox
import Derived.Shelf.Abstract
import Derived.Shelf.RegionOpen
import Derived.TacticsIn
import Derived.RegionIn
import Derived.OwnWalkIn
import Derived.TacticsInMore
import Derived.LoopNIn
import Derived.LoopIn
import Derived.Deep.LoopGhost
namespace Go.Proofs.Ytpeclgfopincbaa.skySeq
open Go.ChangeShapes Go.WideShapes Go.ChangeAt Go.RowKit
open Go.ChangeMaps (open_string shut_string)
set_option linter.unusedVariables false
open Go Ieee Go.RowKit Go.Shelf
open Go.Proofs.Ytpeclgfopincbaa.slc Go.Proofs.Ytpeclgfopincbaa.small Go.Proofs.Ytpeclgfopincbaa.skyNum

attribute [local go_sem] Oper.semAt_some
/-- Valid directions. -/
abbrev Dir := {d : Int × Int // dirB d.1 d.2 = true}
def encd (d : Int × Int) : Value := .agg #[.int .i64 d.1, .int .i64 d.2]
theorem us_len (s : Nat) : (us s).length = 2 * (64 / s) + 1 := by simp [us]
theorem us_at (s i : Nat) (hi : i < 2 * (64 / s) + 1) : (us s).getD i 0 = (i : Int) * s - ((64 / s * s : Nat) : Int) := by
  rw [skyNum.get_at _ _ (by rw [us_len]; exact hi)]
  simp [us]
theorem last_at : ∀ s : Nat, s < 65 → 16 ≤ s → 64 / s * s ≤ 64 := by decide +kernel
/-- The cell of D is as it was. -/
def KD (D : Nat) (A B : World) : Prop := ∀ v, A.cell? ⟨D, 0, none⟩ = some v → B.cell? ⟨D, 0, none⟩ = some v
theorem step_le {i q s L0 : Nat} (h : L0 = q * s) (hi : i ≤ 2 * q) : (i : Int) * s ≤ 2 * (L0 : Int) := by
  have : i * s ≤ 2 * q * s := Nat.mul_le_mul_right s hi
  rw [Nat.mul_assoc, ← h] at this
  exact_mod_cast this
theorem step_next (i s : Nat) : ((i + 1 : Nat) : Int) * s = (i : Int) * s + s := by rw [Int.natCast_add]; simp [Int.add_mul]
theorem w64 {x : Int} (h : -9223372036854775808 ≤ x ∧ x ≤ 9223372036854775807) : wrap64 x = x := by
  unfold wrap64
  omega
set_option maxRecDepth 100000 in
set_option maxHeartbeats 2000000 in
theorem sky_seq (s D : Nat) (w : World) (h0 : 16 ≤ s) (h1 : s < 65) (hD : w.cell? ⟨D, 0, none⟩ = some (.int .i64 s)) :
    SeqStopsK Fence.wide 4 Try.prog 175 #[.pointer (some ⟨D, 0, none⟩)] (fun d : Dir => #[encd d.1]) (KD D) (fun xs => xs.map Subtype.val = rows (us s) cI (us s)) (fun _ => True) 100 w := fun l J Jx W hW hA _ hY hJ0 => by
  have hDW : W.cell? ⟨D, 0, none⟩ = some (.int .i64 s) := (hW.cell (p := ⟨D, 0, none⟩) (World.block_lt_of_cell? w _ hD)).trans hD
  have n1 := last_at s h1 h0
  have hs0 : (s : Int) ≠ 0 := by omega
  have hs1 : (s : Int) ≤ 64 := by omega
  obtain ⟨q, hq⟩ : ∃ q : Nat, q = 64 / s := ⟨_, rfl⟩
  obtain ⟨L0, hL0⟩ : ∃ L0 : Nat, L0 = q * s := ⟨_, rfl⟩
  have e1 : (64 : Int) / (s : Int) = (q : Int) := by rw [hq]; rfl
  have hm : (us s).length = 2 * q + 1 := by rw [us_len, hq]
  have hat : ∀ i, i < 2 * q + 1 → (us s).getD i 0 = (i : Int) * s - L0 := fun i hi => by rw [us_at s i (by rw [← hq]; exact hi), hL0, hq]
  have hL64 : L0 ≤ 64 := by rw [hL0, hq]; exact n1
  have e2 : wrap64 ((q : Int) * s) = (L0 : Int) := by
    rw [show (q : Int) * s = (L0 : Int) by rw [hL0]; rfl]
    exact w64 (by omega)
  have E := Lib.hid (And.intro e1 e2)
  have HS := Lib.hid (fun (i : Nat) (hi : i ≤ 2 * q) => step_le (s := s) hL0 hi)
  have HAT := Lib.hid hat
  have HM := Lib.hid hm
  have HL := Lib.hid (show (2 * (q : Int) + 1) * s = 2 * L0 + s by rw [hL0, Int.add_mul, Int.mul_assoc]; simp)
  clear e1 e2 hD hW n1 hat hm hq hL0
  refine callsIn_of_wp Try.func175 rfl trivial ?_ rfl
  simp only [Try.ntmps175, List.size_toArray, List.length_cons, List.length_nil, Nat.reduceAdd, Nat.reduceSub, Array.replicate_succ, Array.replicate_zero, List.push_toArray, List.append_toArray, List.nil_append, List.cons_append]
  have hmx : Try.prog.follows .mixedOrders = true := by kernel_rfl
  gi_wp2
  gi_big_quiet_th_o (fail)
  rw [E.out.1, E.out.2]
  have hJ2 := hA [] W (W.drewN nq) none hJ0 (gb_drewN W nq none) (fun r e => by cases e)
  have hD2 : (W.drewN nq).cell? ⟨D, 0, none⟩ = some (.int .i64 s) := hDW
  have HJ := Lib.hid (fun (K : List Dir) (A A' : World) (h : J K A) (g : A.grownBy A' none) => hA K A A' none h g (fun r e => by cases e))
  have HW := Lib.hid (fun (i j : Nat) (hj : j < 2 * q + 1) => wlk_j (us s) cI i j (by rw [HM.out]; exact hj))
  have HWI := Lib.hid (fun (i : Nat) (hi : i < 2 * q + 1) => wlk_i (us s) cI i (by rw [HM.out]; exact hi))
  have HLE := Lib.hid (fun (i j : Nat) (hi : i < 2 * q + 1) => Nat.lt_of_le_of_lt (Nat.le_trans (wlk_len (us s) cI i j (by rw [HM.out]; exact hi)) (few s h1 h0)) (show 49 < 100 by omega))
  have HE := Lib.hid (show wlk (us s) cI (2 * q + 1) 0 = rows (us s) cI (us s) by rw [← HM.out]; exact wlk_end _ _)
  have HYY := Lib.hid hY
  clear hY
  clear hJ0 hDW E hA
  generalize W.drewN nq = W2 at *
  gi_wp2
  gi_loopw [4] (fun v wr => ∃ i : Nat, i ≤ 2 * q + 1 ∧ v = .int .i64 ((i : Int) * s - L0) ∧ wr.cell? ⟨D, 0, none⟩ = some (.int .i64 s) ∧ ∃ K : List Dir, K.map Subtype.val = wlk (us s) cI i 0 ∧ J K wr) (fun v _ => (1000 - intOf v).toNat)
  case atStart => exact ⟨0, by omega, by simp, hD2, [], by rw [wlk_zero]; rfl, hJ2⟩
  case round =>
    obtain ⟨i, hi, rfl, hDr, K0, hK0, hJ⟩ := hrel
    by_cases hlt : i < 2 * q + 1
    · have b1 := HS.out i (show i ≤ 2 * q by omega)
      have b0 : (0 : Int) ≤ (i : Int) * s := by exact_mod_cast Nat.zero_le _
      have hv := HAT.out i hlt
      have b2 := step_next i s
      generalize hX : (i : Int) * s = X at *
      have b3 : X - (L0 : Int) ≤ L0 := by omega
      gi_wp2
      gi_loopw [5] (fun u wi => ∃ j : Nat, j ≤ 2 * q + 1 ∧ u = .int .i64 ((j : Int) * s - L0) ∧ wi.cell? ⟨D, 0, none⟩ = some (.int .i64 s) ∧ ∃ K : List Dir, K.map Subtype.val = wlk (us s) cI i j ∧ J K wi) (fun u _ => (1000 - intOf u).toNat)
      case atStart => exact ⟨0, by omega, by simp, hDr, K0, hK0, hJ⟩
      case round =>
        obtain ⟨j, hj, rfl, hDi, K, hK, hJi⟩ := hrel
        by_cases hjt : j < 2 * q + 1
        · have hu := HAT.out j hjt
          have c1 := HS.out j (show j ≤ 2 * q by omega)
          have c0 : (0 : Int) ≤ (j : Int) * s := by exact_mod_cast Nat.zero_le _
          have c2 := step_next j s
          generalize hY0 : (j : Int) * s = Y at *
          have HJI := Lib.hid hJi
          have c3 : Y - (L0 : Int) ≤ L0 := by omega
          have HK := Lib.hid hK
          clear hJi hK
          gi_wp2
          refine ⟨trivial, (callsIn_wide.2 (dir_impl _ _ _)).mono ?_⟩
          rintro e w3 ⟨rfl, g3⟩
          have d0 := (boxed2 g3).1
          have d1 := (boxed2 g3).2
          have g4 := (World.grownBy_alloc wr (.cells #[.int .i64 (Y - L0), .int .i64 (X - L0)] 36) none).trans g3
          have hD3 := g4.cell hDi (by simp)
          have HJ3 := Lib.hid (HJ.out _ _ _ HJI.out g4)
          have hw := HW.out i j hjt
          rw [hu, hv] at hw
          clear g3 g4 HJI
          cases hd : dirB (Y - L0) (X - L0)
          case false =>
            rw [if_neg (by unfold cI; rw [hd]; exact Bool.false_ne_true), List.append_nil] at hw
            have HWW := Lib.hid hw
            clear hw
            gi_wp2
            refine ⟨fun f h => (by cases h), ?_⟩
            gi_wp2
            go_roundw
            case rel => exact ⟨j + 1, by omega, by rw [c2]; exact congrArg _ (by omega), hD3, K, by rw [HWW.out]; exact HK.out, HJ3.out⟩
            case measure => simp [intOf]; omega
          case true =>
            rw [if_pos (by unfold cI; exact hd)] at hw
            have HWW := Lib.hid hw
            clear hw
            obtain ⟨fn, tmps, assign, body, hy, hR⟩ := HYY.out K ⟨(Y - L0, X - L0), hd⟩ w3 HJ3.out (by rw [← List.length_map (f := Subtype.val), HK.out]; exact HLE.out i j hlt)
            unfold encd at hy
            gi_wp2
            refine hR.mono ?_
            rintro e W3 (⟨rfl, hJ4, hk4⟩ | ⟨rfl, hx4⟩)
            · have hD4 := hk4 _ hD3
              have HJ4 := Lib.hid hJ4
              clear hJ4 hk4
              gi_wp2
              go_roundw
              case rel => exact ⟨j + 1, by omega, by rw [c2]; exact congrArg _ (by omega), hD4, K ++ [⟨(Y - L0, X - L0), hd⟩], by rw [List.map_append, HK.out, HWW.out]; rfl, HJ4.out⟩
              case measure => simp [intOf]; omega
            · gi_wp2
              refine bodyPost_ret (results_none rfl _ _ _) rfl ?_
              exact ⟨⟨_, rfl⟩, .inr ⟨_, trivial, hx4⟩⟩
        · obtain rfl : j = 2 * q + 1 := by omega
          have c2 : ((2 * q + 1 : Nat) : Int) * s = 2 * L0 + s := by rw [← HL.out]; rfl
          have hwi := HWI.out i hlt
          rw [HM.out] at hwi
          have HJI := Lib.hid (And.intro (hK.trans hwi.symm) hJi)
          clear hJi hwi hK
          rw [c2]
          gi_wp2
          go_roundw
          case rel => exact ⟨i + 1, by omega, by rw [b2]; exact congrArg _ (by omega), hDi, K, HJI.out⟩
          case measure => simp [intOf]; omega
    · obtain rfl : i = 2 * q + 1 := by omega
      have c2 : ((2 * q + 1 : Nat) : Int) * s = 2 * L0 + s := by rw [← HL.out]; rfl
      have HJF := Lib.hid (And.intro (hK0.trans HE.out) hJ)
      clear hJ hK0
      rw [c2]
      gi_wp2
      go_end0
      exact ⟨⟨_, rfl⟩, .inl ⟨K0, HJF.out⟩⟩

end Go.Proofs.Ytpeclgfopincbaa.skySeq
