/- The greatest number of a cut, by the program and by the model. -/
import Derived.Test.YtkjmlpdbnnmlhabRows
import Derived.Test.YtkjmlpdbnnmlhabSlc
import Derived.Test.YtkjmlpdbnnmlhabSmall
import Derived.Test.YtkjmlpdbnnmlhabFloatAll
import Derived.Test.YtkjmlpdbnnmlhabFWalk
import Derived.Test.YtkjmlpdbnnmlhabCut
import Derived.Test.YtkjmlpdbnnmlhabListF
import Derived.WalkKit
import Derived.ProofKit
import Derived.OpenShut
import Derived.ShutString
import Derived.ChangeOld
import Derived.Below
import Derived.Lib.Hide
import Derived.BigQuiet
import Derived.Deep.QuietTactic
import Derived.WalkLawsBesides
import Derived.Outline
import Derived.Deep.LoopGhost
namespace Go.Proofs.Ytkjmlpdbnnmlhab.peak
open Go.ChangeShapes Go.WideShapes Go.ChangeAt Go.RowKit
open Go.ChangeMaps (open_string shut_string)
set_option linter.unusedVariables false
open Go Ieee Go.RowKit
open Go.Proofs.Ytkjmlpdbnnmlhab.slc Go.Proofs.Ytkjmlpdbnnmlhab.small Go.Proofs.Ytkjmlpdbnnmlhab.floats Go.Proofs.Ytkjmlpdbnnmlhab.round Go.Proofs.Ytkjmlpdbnnmlhab.values Go.Proofs.Ytkjmlpdbnnmlhab.conv Go.Proofs.Ytkjmlpdbnnmlhab.fWalk Go.Proofs.Ytkjmlpdbnnmlhab.cut Go.Proofs.Ytkjmlpdbnnmlhab.listF

theorem few_yes : True := trivial
theorem few_no : True := trivial
theorem cut_yes (A : Option Addr) (n c : Nat) (w : World) (h : 1 ≤ n) (h2 : n ≤ 129) :
    Calls Try.prog 231 #[.slice A n c] w fun e w' => e = .returned (.bool true) ∧ w = w' := by
  have h' : (1 : Int) ≤ n := by omega
  have h2' : (n : Int) ≤ 129 := by omega
  go_enter Try.func231, Try.ntmps231
  go_wp2_with fail
  refine (within_yes _ _ _ _ (by omega) (by omega)).mono ?_
  rintro e w' ⟨rfl, rfl⟩
  go_wp2_with fail
  go_ret
  exact ⟨rfl, rfl⟩
theorem cut_no (A : Option Addr) (n c : Nat) (w : World) (h : n < 1 ∨ 129 < n) (hm : n ≤ 9223372036854775807) :
    Calls Try.prog 231 #[.slice A n c] w fun e w' => e = .returned (.bool false) ∧ w = w' := by
  have h' : (n : Int) < 1 ∨ (129 : Int) < n := by omega
  clear h
  go_enter Try.func231, Try.ntmps231
  go_wp2_with fail
  refine (within_no _ _ _ _ h').mono ?_
  rintro e w' ⟨rfl, rfl⟩
  go_wp2_with fail
  go_ret
  exact ⟨rfl, rfl⟩

section
attribute [local go_sem] cv3264
theorem nan_call (x : Nat) (w : World) :
    Calls Try.prog 233 #[.float .f32 x] w fun e w' => e = .returned (.bool (isNaN .f32 x)) ∧ ∃ n, w' = w.drewN n := by
  go_enter Try.func233, Try.ntmps233
  go_wp2_with fail
  refine (isnan_call _ _).mono ?_
  rintro e w' ⟨rfl, rfl⟩
  go_wp2_with fail
  go_ret
  exact ⟨by rw [widen_nan]; rfl, _, rfl⟩
end

set_option maxHeartbeats 800000 in
theorem peak_spec : True := trivial

set_option maxHeartbeats 800000 in
theorem peak_impl (A : Option Addr) (n c B : Nat) (x : Nat → Nat) (w : World) (hn1 : 1 ≤ n) (hn : n ≤ 129) (hB : B ≤ w.heap.size) (ha : Rd w B A n (fl x)) :
    Calls Try.prog 145 #[.slice A n c] w fun e w' => e = .returned (.tuple #[.int .i64 (pkR x n).1, .bool (pkR x n).2]) ∧ w.grownBy w' none := by
  have hm := pm_pk x n
  obtain ⟨r, b, hR0⟩ : ∃ r b, pkR x n = (r, b) := ⟨_, _, rfl⟩
  rw [hR0]
  have HR := Lib.hid hR0
  clear hR0
  go_enter Try.func145, Try.ntmps145
  go_wp2_with fail
  refine (cut_yes _ _ _ _ hn1 hn).mono ?_
  rintro e w' ⟨rfl, rfl⟩
  go_wp2_with fail
  go_loopw [4, 12] (fun p i wr => ∃ k : Nat, k ≤ n ∧ i = .int .i64 k ∧ p = .int .i64 (pm x k : Nat) ∧ w.grownBy wr none) (fun _ i _ => n - (intOf i).toNat)
  case atStart => exact ⟨0, Nat.zero_le _, rfl, rfl, World.grownBy.refl _ _⟩
  case round =>
    obtain ⟨k, hk, rfl, rfl, hg⟩ := hrel
    have hrd := ha.kept0 hg hB
    have hpl := pm_lt x k
    have hpn : pm x k < n := by omega
    obtain ⟨ad, rfl, _, hc0⟩ := hrd.at_ hpn
    have hc1 : wr.cell? (ad.add (pm x k)) = some (.float .f32 (x (pm x k))) := hc0
    have hq0 : (0 : Int) ≤ (pm x k : Nat) := by omega
    have hq1 : ((pm x k : Nat) : Int) < n := by omega
    by_cases hlt : k < n
    · have hc : wr.cell? (ad.add k) = some (.float .f32 (x k)) := by
        obtain ⟨ad', e, _, h'⟩ := hrd.at_ hlt
        injection e with e; subst e; exact h'
      have hk0 : (0 : Int) ≤ k := by omega
      have hk1 : (k : Int) < n := by omega
      have hps := pm_succ x k
      clear hm
      by_cases hgt : FloatKind.f32.format.order (x k) (x (pm x k)) = some .gt
      · have e : pm x (k + 1) = k := by rw [hps, if_pos (.inl hgt)]
        have HE := Lib.hid e
        clear e hps hrd hc0 hpl hpn
        generalize pm x k = q at *
        go_wp2_with fail
        go_roundw
        case rel => exact ⟨k + 1, by omega, by go_num, by rw [HE.out], hg⟩
        case measure => simp [intOf]; omega
      · have hgf : (FloatKind.f32.format.order (x k) (x (pm x k)) == some .gt) = false := by simpa using hgt
        have hnan := nan_call (x (pm x k))
        by_cases hnn : isNaN .f32 (x (pm x k)) = true
        · have e : pm x (k + 1) = k := by rw [hps, if_pos (.inr hnn)]
          rw [hnn] at hnan
          have HE := Lib.hid e
          have HN := Lib.hid hnan
          clear e hps hrd hc0 hpl hpn hgt hnn hnan
          generalize pm x k = q at *
          go_wp2_with fail
          refine (HN.out _).mono ?_
          rintro e w' ⟨rfl, m, rfl⟩
          go_wp2_with fail
          go_roundw
          case rel => exact ⟨k + 1, by omega, by go_num, by rw [HE.out], hg.trans (gb_drewN _ _ _)⟩
          case measure => simp [intOf]; omega
        · have e : pm x (k + 1) = pm x k := by
            rw [hps, if_neg]
            rintro (h | h)
            · exact hgt h
            · exact hnn h
          rw [show isNaN .f32 (x (pm x k)) = false by simpa using hnn] at hnan
          have HE := Lib.hid e
          have HN := Lib.hid hnan
          clear e hps hrd hc0 hpl hpn hgt hnn hnan
          generalize pm x k = q at *
          go_wp2_with fail
          refine (HN.out _).mono ?_
          rintro e w' ⟨rfl, m, rfl⟩
          go_wp2_with fail
          go_roundw
          case rel => exact ⟨k + 1, by omega, by go_num, by rw [HE.out], hg.trans (gb_drewN _ _ _)⟩
          case measure => simp [intOf]; omega
    · obtain rfl : k = n := by omega
      have hnan := nan_call (x (pm x k))
      by_cases hp : 0 ≤ pkI x k
      · obtain ⟨m1, m2⟩ := hm.1 hp
        rw [m2] at hnan
        have hR : pkR x k = (((pm x k : Nat) : Int), true) := by unfold pkR; rw [if_pos ⟨⟨hn1, hn⟩, hp⟩, m1]
        obtain ⟨rfl, rfl⟩ : r = ((pm x k : Nat) : Int) ∧ b = true := by rw [HR.out] at hR; injection hR with h1 h2; exact ⟨h1, h2⟩
        clear HR
        have HN := Lib.hid hnan
        clear hm m1 m2 hp hnan hrd hpl hpn hc0 hR
        generalize hq : pm x k = q at *
        have HQ := Lib.hid hq
        clear hq
        go_wp2_with fail
        refine (HN.out _).mono ?_
        rintro e w' ⟨rfl, m, rfl⟩
        go_wp2_with fail
        go_ret2
        exact ⟨by rw [HQ.out]; rfl, hg.trans (gb_drewN _ _ _)⟩
      · have m2 := hm.2 (by omega) hn1
        rw [m2] at hnan
        have hR : pkR x k = (0, false) := by unfold pkR; rw [if_neg (fun h => hp h.2)]
        obtain ⟨rfl, rfl⟩ : r = 0 ∧ b = false := by rw [HR.out] at hR; injection hR with h1 h2; exact ⟨h1, h2⟩
        clear HR
        have HN := Lib.hid hnan
        clear hm m2 hp hnan hrd hpl hpn hc0 hR
        generalize hq : pm x k = q at *
        have HQ := Lib.hid hq
        clear hq
        go_wp2_with fail
        refine (HN.out _).mono ?_
        rintro e w' ⟨rfl, m, rfl⟩
        go_wp2_with fail
        go_ret2
        exact ⟨rfl, hg.trans (gb_drewN _ _ _)⟩

theorem peak_impl_no (A : Option Addr) (n c : Nat) (x : Nat → Nat) (w : World) (h : n < 1 ∨ 129 < n) (hm : n ≤ 9223372036854775807) :
    Calls Try.prog 145 #[.slice A n c] w fun e w' => e = .returned (.tuple #[.int .i64 (pkR x n).1, .bool (pkR x n).2]) ∧ w.grownBy w' none := by
  have hR : pkR x n = (0, false) := by unfold pkR; rw [if_neg (fun h' => by omega)]
  rw [hR]
  clear hR
  go_enter Try.func145, Try.ntmps145
  go_wp2_with fail
  refine (cut_no _ _ _ _ h hm).mono ?_
  rintro e w' ⟨rfl, rfl⟩
  go_wp2_with fail
  go_ret2
  exact ⟨rfl, World.grownBy.refl _ _⟩

theorem spec_p : True := trivial
theorem impl_p (A : Option Addr) (n c B : Nat) (x : Nat → Nat) (w : World) (hm : n ≤ 9223372036854775807) (hB : B ≤ w.heap.size) (ha : Rd w B A n (fl x)) :
    Calls Try.prog 145 #[.slice A n c] w fun e w' => e = .returned (.tuple #[.int .i64 (pkR x n).1, .bool (pkR x n).2]) ∧ w.grownBy w' none := by
  by_cases h : 1 ≤ n ∧ n ≤ 129
  · exact peak_impl A n c B x w h.1 h.2 hB ha
  · exact peak_impl_no A n c x w (by omega) hm

end Go.Proofs.Ytkjmlpdbnnmlhab.peak
