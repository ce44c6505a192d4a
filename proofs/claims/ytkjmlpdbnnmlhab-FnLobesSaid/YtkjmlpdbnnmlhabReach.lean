/- How far one comes from an index, by the program and by the model. -/
import Derived.Test.YtkjmlpdbnnmlhabRows
import Derived.Test.YtkjmlpdbnnmlhabSlc
import Derived.Test.YtkjmlpdbnnmlhabSmall
import Derived.Test.YtkjmlpdbnnmlhabFloatAll
import Derived.Test.YtkjmlpdbnnmlhabFWalk
import Derived.Test.YtkjmlpdbnnmlhabCut
import Derived.Test.YtkjmlpdbnnmlhabListF
import Derived.Test.YtkjmlpdbnnmlhabPeak
import Derived.WalkKit
import Derived.ProofKit
import Derived.OpenShut
import Derived.ShutString
import Derived.ChangeOld
import Derived.Below
import Derived.Lib.Hide
import Derived.BigQuiet
import Derived.Deep.QuietTactic
import Derived.WalkLawsBesides
import Derived.Outline
import Derived.Deep.LoopGhost
namespace Go.Proofs.Ytkjmlpdbnnmlhab.reach
open Go.ChangeShapes Go.WideShapes Go.ChangeAt Go.RowKit
open Go.ChangeMaps (open_string shut_string)
set_option linter.unusedVariables false
open Go Ieee Go.RowKit
open Go.Proofs.Ytkjmlpdbnnmlhab.slc Go.Proofs.Ytkjmlpdbnnmlhab.small Go.Proofs.Ytkjmlpdbnnmlhab.floats Go.Proofs.Ytkjmlpdbnnmlhab.round Go.Proofs.Ytkjmlpdbnnmlhab.values Go.Proofs.Ytkjmlpdbnnmlhab.conv Go.Proofs.Ytkjmlpdbnnmlhab.fWalk Go.Proofs.Ytkjmlpdbnnmlhab.cut Go.Proofs.Ytkjmlpdbnnmlhab.listF Go.Proofs.Ytkjmlpdbnnmlhab.peak

theorem lo_zero {r : Nat → Nat → Bool} {at_ : Nat} (h : lo r 0 = lo r at_) : lo r at_ = 0 := h.symm
theorem add_succ (a : Addr) (m : Nat) : a.add (m + 1) = ⟨a.block, a.off + (m + 1), none⟩ := by unfold Addr.add; simp
theorem cell_at {w : World} {B n k : Nat} {A : Option Addr} {x : Nat → Nat} (h : Rd w B A n (fl x)) (hk : k < n) : ∀ ad, A = some ad → w.cell? (ad.add k) = some (.float .f32 (x k)) := by
  rintro ad rfl
  obtain ⟨ad', e, _, h'⟩ := h.at_ hk
  injection e with e; subst e; exact h'
theorem main_cl (a b : Nat) (w : World) : Calls Try.prog 143 #[.float .f32 a, .float .f32 b] w fun e w' =>
    e = .returned (.bool (FloatKind.f32.format.order b a == some .lt || FloatKind.f32.format.order b a == some .eq)) ∧ w' = w := by
  go_enter Try.func143, Try.ntmps143
  go_wp2
  go_ret
  exact ⟨rfl, rfl⟩
theorem width_cl (a b h Bh : Nat) (w : World) (hc : w.cell? ⟨Bh, 0, none⟩ = some (.float .f32 h)) : Calls Try.prog 142 #[.float .f32 a, .float .f32 b, .pointer (some ⟨Bh, 0, none⟩)] w fun e w' =>
    e = .returned (.bool (FloatKind.f32.format.order b h == some .gt || FloatKind.f32.format.order b h == some .eq)) ∧ w' = w := by
  go_enter Try.func142, Try.ntmps142
  go_wp2
  go_ret
  exact ⟨rfl, rfl⟩

set_option maxHeartbeats 1600000 in
set_option maxRecDepth 100000 in
theorem main_reach (A : Option Addr) (n c B at_ : Nat) (x : Nat → Nat) (r : Nat → Nat → Bool) (w : World) (hn : n ≤ 129) (hat : at_ < n) (hB : B ≤ w.heap.size) (ha : Rd w B A n (fl x))
    (hcl : ∀ (a b : Nat) (w1 : World), Calls Try.prog 143 #[.float .f32 (x a), .float .f32 (x b)] w1 fun e w' => e = .returned (.bool (r a b)) ∧ w' = w1) :
    Calls Try.prog 141 #[.slice A n c, .int .i64 at_, .func (.func 143) #[] #[]] w fun e w' => e = .returned (.tuple #[.int .i64 (reach r n at_).1, .int .i64 (reach r n at_).2]) ∧ w.grownBy w' none := by
  have HCL := Lib.hid hcl
  clear hcl
  go_enter Try.func141, Try.ntmps141
  go_wp2
  go_loopw [8] (fun i wr => ∃ j : Nat, j ≤ at_ ∧ i = .int .i64 j ∧ lo r j = lo r at_ ∧ w.grownBy wr none) (fun i _ => (intOf i).toNat)
  case atStart => exact ⟨at_, Nat.le_refl _, rfl, rfl, World.grownBy.refl _ _⟩
  case round =>
    obtain ⟨j, hj, rfl, hlo, hg⟩ := hrel
    have hrd := ha.kept0 hg hB
    by_cases h0 : j = 0
    · subst h0
      have HLO := Lib.hid (lo_zero hlo)
      clear hlo hrd
      go_wp2
      go_quiet (fail)
      go_wp2
      go_loopw [9] (fun i wr => ∃ j : Nat, at_ ≤ j ∧ j < n ∧ i = .int .i64 j ∧ hi r (n - 1 - j) j = hi r (n - 1 - at_) at_ ∧ w.grownBy wr none) (fun i _ => n - (intOf i).toNat)
      case atStart => exact ⟨at_, Nat.le_refl _, hat, rfl, rfl, hg.trans (gb_drewN _ _ _)⟩
      case round =>
        clear hg
        obtain ⟨m, hm, hmn, rfl, hhi, hg⟩ := hrel
        have hrd := ha.kept0 hg hB
        have hc := cell_at hrd hmn
        have hnz : 0 < n := by omega
        obtain ⟨ad, rfl, _, _⟩ := hrd.at_ hnz
        have hc := hc _ rfl
        have p0 : (0 : Int) ≤ m := by omega
        have p1 : (m : Int) < n := by omega
        have s1 : IntKind.i64.wrap ((m : Int) + 1) = (m : Int) + 1 := IntWalk.i64_in _ (by omega)
        have s2 : (0 : Int) ≤ (m : Int) + 1 := by omega
        have s3 : ((m : Int) + 1).toNat = m + 1 := by omega
        by_cases hlt : m + 1 < n
        · have hd := cell_at hrd hlt _ rfl
          rw [add_succ] at hd
          have hhs : hi r (n - 1 - m) m = if r m (m + 1) then hi r (n - 1 - (m + 1)) (m + 1) else m := by
            rw [show n - 1 - m = (n - 1 - (m + 1)) + 1 from by omega]; exact hi_succ r _ _
          have s4 : (m : Int) + 1 < n := by omega
          have hcl2 := fun w1 => HCL.out m (m + 1) w1
          by_cases hr : r m (m + 1) = true
          · rw [hr] at hcl2
            have hhi2 : hi r (n - 1 - (m + 1)) (m + 1) = hi r (n - 1 - at_) at_ := by rw [← hhi, hhs, if_pos hr]
            have HC := Lib.hid hcl2
            have HHI := Lib.hid hhi2
            clear hcl2 hhi2 hhs hhi hr hrd
            go_wp2
            go_quiet ((go_at_call 143; exact Calls.quiet_of_same (HC.out _)))
            go_wp2
            clear s1 s3
            go_roundw
            case rel => exact ⟨m + 1, by omega, by omega, by go_num, HHI.out, hg.trans (gb_drewN _ _ _)⟩
            case measure => simp [intOf]; omega
          · have hr' : r m (m + 1) = false := by simpa using hr
            rw [hr'] at hcl2
            have hhi2 : hi r (n - 1 - at_) at_ = m := by rw [← hhi, hhs, if_neg hr]
            have HC := Lib.hid hcl2
            have HHI := Lib.hid hhi2
            clear hcl2 hhi2 hhs hhi hr hr' hrd
            go_wp2
            go_quiet ((go_at_call 143; exact Calls.quiet_of_same (HC.out _)))
            go_wp2
            go_ret2
            exact ⟨by unfold reach; rw [HLO.out, HHI.out]; rfl, hg.trans (gb_drewN _ _ _)⟩
        · have hhi2 : hi r (n - 1 - at_) at_ = m := by rw [← hhi, show n - 1 - m = 0 from by omega]; rfl
          have HHI := Lib.hid hhi2
          have s4 : decide ((m : Int) + 1 < n) = false := by simp; omega
          clear hhi2 hhi hrd
          go_wp2
          go_quiet (fail)
          go_wp2
          go_ret2
          exact ⟨by unfold reach; rw [HLO.out, HHI.out]; rfl, hg.trans (gb_drewN _ _ _)⟩
    · obtain ⟨i, hij⟩ : ∃ i, j = i + 1 := ⟨j - 1, by omega⟩
      have hjn : j < n := by omega
      have hin : i < n := by omega
      have hc := cell_at hrd hjn
      have hd := cell_at hrd hin
      have hnz : 0 < n := by omega
      obtain ⟨ad, rfl, _, _⟩ := hrd.at_ hnz
      have hc := hc _ rfl
      have hd := hd _ rfl
      have hls : lo r j = if r j i then lo r i else j := by subst hij; exact lo_succ r i
      have p0 : 0 < j := by omega
      have p1 : (j : Int) < n := by omega
      have p2 : (0 : Int) ≤ i := by omega
      have p3 : (i : Int) < n := by omega
      have hsub : IntKind.i64.wrap ((j : Int) - 1) = (i : Int) := by rw [show (j : Int) - 1 = (i : Int) from by omega]; exact IntWalk.i64_in _ (by omega)
      have hsub' : (j : Int) - 1 = (i : Int) := by omega
      have HIJ := Lib.hid hij
      clear hij hrd h0
      have hcl2 := fun w1 => HCL.out j i w1
      by_cases hr : r j i = true
      · rw [hr] at hcl2
        have hlo2 : lo r i = lo r at_ := by rw [← hlo, hls, if_pos hr]
        have HC := Lib.hid hcl2
        have HLO := Lib.hid hlo2
        clear hcl2 hlo2 hls hlo hr
        go_wp2
        go_quiet ((go_at_call 143; exact Calls.quiet_of_same (HC.out _)))
        go_wp2
        go_roundw
        case rel => exact ⟨i, by omega, by go_num, HLO.out, hg.trans (gb_drewN _ _ _)⟩
        case measure => simp [intOf]; omega
      · have hr' : r j i = false := by simpa using hr
        rw [hr'] at hcl2
        have hlo2 : lo r at_ = j := by rw [← hlo, hls, if_neg hr]
        have HC := Lib.hid hcl2
        have HLO := Lib.hid hlo2
        clear hcl2 hlo2 hls hlo hr hr'
        go_wp2
        go_quiet ((go_at_call 143; exact Calls.quiet_of_same (HC.out _)))
        go_wp2
        clear hsub hsub' hc hd hnz p0 p1 p2 p3
        go_loopw [9] (fun i wr => ∃ j : Nat, at_ ≤ j ∧ j < n ∧ i = .int .i64 j ∧ hi r (n - 1 - j) j = hi r (n - 1 - at_) at_ ∧ w.grownBy wr none) (fun i _ => n - (intOf i).toNat)
        case atStart => exact ⟨at_, Nat.le_refl _, hat, rfl, rfl, hg.trans (gb_drewN _ _ _)⟩
        case round =>
          clear hg
          obtain ⟨m, hm, hmn, rfl, hhi, hg⟩ := hrel
          have hrd := ha.kept0 hg hB
          have hc := cell_at hrd hmn
          have hnz : 0 < n := by omega
          have hc := hc _ rfl
          have p0 : (0 : Int) ≤ m := by omega
          have p1 : (m : Int) < n := by omega
          have s1 : IntKind.i64.wrap ((m : Int) + 1) = (m : Int) + 1 := IntWalk.i64_in _ (by omega)
          have s2 : (0 : Int) ≤ (m : Int) + 1 := by omega
          have s3 : ((m : Int) + 1).toNat = m + 1 := by omega
          by_cases hlt : m + 1 < n
          · have hd := cell_at hrd hlt _ rfl
            rw [add_succ] at hd
            have hhs : hi r (n - 1 - m) m = if r m (m + 1) then hi r (n - 1 - (m + 1)) (m + 1) else m := by
              rw [show n - 1 - m = (n - 1 - (m + 1)) + 1 from by omega]; exact hi_succ r _ _
            have s4 : (m : Int) + 1 < n := by omega
            have hcl2 := fun w1 => HCL.out m (m + 1) w1
            by_cases hr : r m (m + 1) = true
            · rw [hr] at hcl2
              have hhi2 : hi r (n - 1 - (m + 1)) (m + 1) = hi r (n - 1 - at_) at_ := by rw [← hhi, hhs, if_pos hr]
              have HC := Lib.hid hcl2
              have HHI := Lib.hid hhi2
              clear hcl2 hhi2 hhs hhi hr hrd
              go_wp2
              go_quiet ((go_at_call 143; exact Calls.quiet_of_same (HC.out _)))
              go_wp2
              clear s1 s3
              go_roundw
              case rel => exact ⟨m + 1, by omega, by omega, by go_num, HHI.out, hg.trans (gb_drewN _ _ _)⟩
              case measure => simp [intOf]; omega
            · have hr' : r m (m + 1) = false := by simpa using hr
              rw [hr'] at hcl2
              have hhi2 : hi r (n - 1 - at_) at_ = m := by rw [← hhi, hhs, if_neg hr]
              have HC := Lib.hid hcl2
              have HHI := Lib.hid hhi2
              clear hcl2 hhi2 hhs hhi hr hr' hrd
              go_wp2
              go_quiet ((go_at_call 143; exact Calls.quiet_of_same (HC.out _)))
              go_wp2
              go_ret2
              exact ⟨by unfold reach; rw [HLO.out, HHI.out]; rfl, hg.trans (gb_drewN _ _ _)⟩
          · have hhi2 : hi r (n - 1 - at_) at_ = m := by rw [← hhi, show n - 1 - m = 0 from by omega]; rfl
            have HHI := Lib.hid hhi2
            have s4 : decide ((m : Int) + 1 < n) = false := by simp; omega
            clear hhi2 hhi hrd
            go_wp2
            go_quiet (fail)
            go_wp2
            go_ret2
            exact ⟨by unfold reach; rw [HLO.out, HHI.out]; rfl, hg.trans (gb_drewN _ _ _)⟩
set_option maxHeartbeats 1600000 in
set_option maxRecDepth 100000 in
theorem width_reach (A : Option Addr) (n c B at_ : Nat) (Bh hv : Nat) (x : Nat → Nat) (r : Nat → Nat → Bool) (w : World) (hn : n ≤ 129) (hat : at_ < n) (hB : B ≤ w.heap.size) (ha : Rd w B A n (fl x)) (hBh : w.cell? ⟨Bh, 0, none⟩ = some (.float .f32 hv))
    (hcl : ∀ (a b : Nat) (w1 : World), w1.cell? ⟨Bh, 0, none⟩ = some (.float .f32 hv) → Calls Try.prog 142 #[.float .f32 (x a), .float .f32 (x b), .pointer (some ⟨Bh, 0, none⟩)] w1 fun e w' => e = .returned (.bool (r a b)) ∧ w' = w1) :
    Calls Try.prog 141 #[.slice A n c, .int .i64 at_, .func (.func 142) #[] #[.pointer (some ⟨Bh, 0, none⟩)]] w fun e w' => e = .returned (.tuple #[.int .i64 (reach r n at_).1, .int .i64 (reach r n at_).2]) ∧ w.grownBy w' none := by
  have HCL := Lib.hid hcl
  clear hcl
  go_enter Try.func141, Try.ntmps141
  go_wp2
  go_loopw [8] (fun i wr => ∃ j : Nat, j ≤ at_ ∧ i = .int .i64 j ∧ lo r j = lo r at_ ∧ w.grownBy wr none) (fun i _ => (intOf i).toNat)
  case atStart => exact ⟨at_, Nat.le_refl _, rfl, rfl, World.grownBy.refl _ _⟩
  case round =>
    obtain ⟨j, hj, rfl, hlo, hg⟩ := hrel
    have hrd := ha.kept0 hg hB
    by_cases h0 : j = 0
    · subst h0
      have HLO := Lib.hid (lo_zero hlo)
      clear hlo hrd
      go_wp2
      go_quiet (fail)
      go_wp2
      go_loopw [9] (fun i wr => ∃ j : Nat, at_ ≤ j ∧ j < n ∧ i = .int .i64 j ∧ hi r (n - 1 - j) j = hi r (n - 1 - at_) at_ ∧ w.grownBy wr none) (fun i _ => n - (intOf i).toNat)
      case atStart => exact ⟨at_, Nat.le_refl _, hat, rfl, rfl, hg.trans (gb_drewN _ _ _)⟩
      case round =>
        clear hg
        obtain ⟨m, hm, hmn, rfl, hhi, hg⟩ := hrel
        have hrd := ha.kept0 hg hB
        have hc := cell_at hrd hmn
        have hnz : 0 < n := by omega
        obtain ⟨ad, rfl, _, _⟩ := hrd.at_ hnz
        have hc := hc _ rfl
        have p0 : (0 : Int) ≤ m := by omega
        have p1 : (m : Int) < n := by omega
        have s1 : IntKind.i64.wrap ((m : Int) + 1) = (m : Int) + 1 := IntWalk.i64_in _ (by omega)
        have s2 : (0 : Int) ≤ (m : Int) + 1 := by omega
        have s3 : ((m : Int) + 1).toNat = m + 1 := by omega
        by_cases hlt : m + 1 < n
        · have hd := cell_at hrd hlt _ rfl
          rw [add_succ] at hd
          have hhs : hi r (n - 1 - m) m = if r m (m + 1) then hi r (n - 1 - (m + 1)) (m + 1) else m := by
            rw [show n - 1 - m = (n - 1 - (m + 1)) + 1 from by omega]; exact hi_succ r _ _
          have s4 : (m : Int) + 1 < n := by omega
          have hcap : wr.cell? ⟨Bh, 0, none⟩ = some (.float .f32 hv) := hg.cell hBh (by simp)
          have hcl2 := fun w1 => HCL.out m (m + 1) w1
          by_cases hr : r m (m + 1) = true
          · rw [hr] at hcl2
            have hhi2 : hi r (n - 1 - (m + 1)) (m + 1) = hi r (n - 1 - at_) at_ := by rw [← hhi, hhs, if_pos hr]
            have HC := Lib.hid hcl2
            have HHI := Lib.hid hhi2
            clear hcl2 hhi2 hhs hhi hr hrd
            go_wp2
            go_quiet ((go_at_call 142; exact Calls.quiet_of_same (HC.out _ hcap)))
            go_wp2
            clear s1 s3
            go_roundw
            case rel => exact ⟨m + 1, by omega, by omega, by go_num, HHI.out, hg.trans (gb_drewN _ _ _)⟩
            case measure => simp [intOf]; omega
          · have hr' : r m (m + 1) = false := by simpa using hr
            rw [hr'] at hcl2
            have hhi2 : hi r (n - 1 - at_) at_ = m := by rw [← hhi, hhs, if_neg hr]
            have HC := Lib.hid hcl2
            have HHI := Lib.hid hhi2
            clear hcl2 hhi2 hhs hhi hr hr' hrd
            go_wp2
            go_quiet ((go_at_call 142; exact Calls.quiet_of_same (HC.out _ hcap)))
            go_wp2
            go_ret2
            exact ⟨by unfold reach; rw [HLO.out, HHI.out]; rfl, hg.trans (gb_drewN _ _ _)⟩
        · have hhi2 : hi r (n - 1 - at_) at_ = m := by rw [← hhi, show n - 1 - m = 0 from by omega]; rfl
          have HHI := Lib.hid hhi2
          have s4 : decide ((m : Int) + 1 < n) = false := by simp; omega
          clear hhi2 hhi hrd
          go_wp2
          go_quiet (fail)
          go_wp2
          go_ret2
          exact ⟨by unfold reach; rw [HLO.out, HHI.out]; rfl, hg.trans (gb_drewN _ _ _)⟩
    · obtain ⟨i, hij⟩ : ∃ i, j = i + 1 := ⟨j - 1, by omega⟩
      have hjn : j < n := by omega
      have hin : i < n := by omega
      have hc := cell_at hrd hjn
      have hd := cell_at hrd hin
      have hnz : 0 < n := by omega
      obtain ⟨ad, rfl, _, _⟩ := hrd.at_ hnz
      have hc := hc _ rfl
      have hd := hd _ rfl
      have hls : lo r j = if r j i then lo r i else j := by subst hij; exact lo_succ r i
      have p0 : 0 < j := by omega
      have p1 : (j : Int) < n := by omega
      have p2 : (0 : Int) ≤ i := by omega
      have p3 : (i : Int) < n := by omega
      have hsub : IntKind.i64.wrap ((j : Int) - 1) = (i : Int) := by rw [show (j : Int) - 1 = (i : Int) from by omega]; exact IntWalk.i64_in _ (by omega)
      have hsub' : (j : Int) - 1 = (i : Int) := by omega
      have HIJ := Lib.hid hij
      clear hij hrd h0
      have hcap : wr.cell? ⟨Bh, 0, none⟩ = some (.float .f32 hv) := hg.cell hBh (by simp)
      have hcl2 := fun w1 => HCL.out j i w1
      by_cases hr : r j i = true
      · rw [hr] at hcl2
        have hlo2 : lo r i = lo r at_ := by rw [← hlo, hls, if_pos hr]
        have HC := Lib.hid hcl2
        have HLO := Lib.hid hlo2
        clear hcl2 hlo2 hls hlo hr
        go_wp2
        go_quiet ((go_at_call 142; exact Calls.quiet_of_same (HC.out _ hcap)))
        go_wp2
        go_roundw
        case rel => exact ⟨i, by omega, by go_num, HLO.out, hg.trans (gb_drewN _ _ _)⟩
        case measure => simp [intOf]; omega
      · have hr' : r j i = false := by simpa using hr
        rw [hr'] at hcl2
        have hlo2 : lo r at_ = j := by rw [← hlo, hls, if_neg hr]
        have HC := Lib.hid hcl2
        have HLO := Lib.hid hlo2
        clear hcl2 hlo2 hls hlo hr hr'
        go_wp2
        go_quiet ((go_at_call 142; exact Calls.quiet_of_same (HC.out _ hcap)))
        go_wp2
        clear hsub hsub' hc hd hnz p0 p1 p2 p3
        go_loopw [9] (fun i wr => ∃ j : Nat, at_ ≤ j ∧ j < n ∧ i = .int .i64 j ∧ hi r (n - 1 - j) j = hi r (n - 1 - at_) at_ ∧ w.grownBy wr none) (fun i _ => n - (intOf i).toNat)
        case atStart => exact ⟨at_, Nat.le_refl _, hat, rfl, rfl, hg.trans (gb_drewN _ _ _)⟩
        case round =>
          clear hg
          obtain ⟨m, hm, hmn, rfl, hhi, hg⟩ := hrel
          have hrd := ha.kept0 hg hB
          have hc := cell_at hrd hmn
          have hnz : 0 < n := by omega
          have hc := hc _ rfl
          have p0 : (0 : Int) ≤ m := by omega
          have p1 : (m : Int) < n := by omega
          have s1 : IntKind.i64.wrap ((m : Int) + 1) = (m : Int) + 1 := IntWalk.i64_in _ (by omega)
          have s2 : (0 : Int) ≤ (m : Int) + 1 := by omega
          have s3 : ((m : Int) + 1).toNat = m + 1 := by omega
          by_cases hlt : m + 1 < n
          · have hd := cell_at hrd hlt _ rfl
            rw [add_succ] at hd
            have hhs : hi r (n - 1 - m) m = if r m (m + 1) then hi r (n - 1 - (m + 1)) (m + 1) else m := by
              rw [show n - 1 - m = (n - 1 - (m + 1)) + 1 from by omega]; exact hi_succ r _ _
            have s4 : (m : Int) + 1 < n := by omega
            have hcap : wr.cell? ⟨Bh, 0, none⟩ = some (.float .f32 hv) := hg.cell hBh (by simp)
            have hcl2 := fun w1 => HCL.out m (m + 1) w1
            by_cases hr : r m (m + 1) = true
            · rw [hr] at hcl2
              have hhi2 : hi r (n - 1 - (m + 1)) (m + 1) = hi r (n - 1 - at_) at_ := by rw [← hhi, hhs, if_pos hr]
              have HC := Lib.hid hcl2
              have HHI := Lib.hid hhi2
              clear hcl2 hhi2 hhs hhi hr hrd
              go_wp2
              go_quiet ((go_at_call 142; exact Calls.quiet_of_same (HC.out _ hcap)))
              go_wp2
              clear s1 s3
              go_roundw
              case rel => exact ⟨m + 1, by omega, by omega, by go_num, HHI.out, hg.trans (gb_drewN _ _ _)⟩
              case measure => simp [intOf]; omega
            · have hr' : r m (m + 1) = false := by simpa using hr
              rw [hr'] at hcl2
              have hhi2 : hi r (n - 1 - at_) at_ = m := by rw [← hhi, hhs, if_neg hr]
              have HC := Lib.hid hcl2
              have HHI := Lib.hid hhi2
              clear hcl2 hhi2 hhs hhi hr hr' hrd
              go_wp2
              go_quiet ((go_at_call 142; exact Calls.quiet_of_same (HC.out _ hcap)))
              go_wp2
              go_ret2
              exact ⟨by unfold reach; rw [HLO.out, HHI.out]; rfl, hg.trans (gb_drewN _ _ _)⟩
          · have hhi2 : hi r (n - 1 - at_) at_ = m := by rw [← hhi, show n - 1 - m = 0 from by omega]; rfl
            have HHI := Lib.hid hhi2
            have s4 : decide ((m : Int) + 1 < n) = false := by simp; omega
            clear hhi2 hhi hrd
            go_wp2
            go_quiet (fail)
            go_wp2
            go_ret2
            exact ⟨by unfold reach; rw [HLO.out, HHI.out]; rfl, hg.trans (gb_drewN _ _ _)⟩

end Go.Proofs.Ytkjmlpdbnnmlhab.reach
