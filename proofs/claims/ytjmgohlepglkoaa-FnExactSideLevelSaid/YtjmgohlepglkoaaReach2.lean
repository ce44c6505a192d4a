/- MainLobe and WidthOf, by the program and by the model. -/
import Derived.Test.YtjmgohlepglkoaaRows
import Derived.Test.YtjmgohlepglkoaaSlc
import Derived.Test.YtjmgohlepglkoaaSmall
import Derived.Test.YtjmgohlepglkoaaFloats
import Derived.Test.YtjmgohlepglkoaaRound
import Derived.Test.YtjmgohlepglkoaaValues
import Derived.Test.YtjmgohlepglkoaaConv
import Derived.Test.YtjmgohlepglkoaaFWalk
import Derived.Test.YtjmgohlepglkoaaCut
import Derived.Test.YtjmgohlepglkoaaListF
import Derived.Test.YtjmgohlepglkoaaPeak
import Derived.Test.YtjmgohlepglkoaaReach
import Derived.WalkKit
import Derived.ProofKit
import Derived.OpenShut
import Derived.ShutString
import Derived.ChangeOld
import Derived.Below
import Derived.Lib.Hide
import Derived.BigQuiet
import Derived.Deep.QuietTactic
import Derived.WalkLawsBesides
import Derived.Outline
import Derived.Deep.QuietTactic
import Derived.BigQuiet
import Derived.Deep.LoopGhost
import Derived.Deep.RegionHeld3
namespace Go.Proofs.Ytjmgohlepglkoaa.reach2
open Go.ChangeShapes Go.WideShapes Go.ChangeAt Go.RowKit
open Go.ChangeMaps (open_string shut_string)
set_option linter.unusedVariables false
open Go Ieee Go.RowKit
open Go.Proofs.Ytjmgohlepglkoaa.slc Go.Proofs.Ytjmgohlepglkoaa.small Go.Proofs.Ytjmgohlepglkoaa.floats Go.Proofs.Ytjmgohlepglkoaa.round Go.Proofs.Ytjmgohlepglkoaa.values Go.Proofs.Ytjmgohlepglkoaa.conv Go.Proofs.Ytjmgohlepglkoaa.fWalk Go.Proofs.Ytjmgohlepglkoaa.cut Go.Proofs.Ytjmgohlepglkoaa.listF Go.Proofs.Ytjmgohlepglkoaa.peak Go.Proofs.Ytjmgohlepglkoaa.reach

def mR (x : Nat → Nat) (a b : Nat) : Bool := FloatKind.f32.format.order (x b) (x a) == some .lt || FloatKind.f32.format.order (x b) (x a) == some .eq
def wR (x : Nat → Nat) (h : Nat) (a b : Nat) : Bool := FloatKind.f32.format.order (x b) h == some .gt || FloatKind.f32.format.order (x b) h == some .eq

set_option maxHeartbeats 1600000 in
set_option maxRecDepth 100000 in
theorem main_spec (ad : Addr) (n c B at_ : Nat) (x : Nat → Nat) (w : World) (hn : n ≤ 129) (hat : at_ < n) (hB : B ≤ w.heap.size) (ha : Rd w B (some ad) n (fl x)) :
    Calls Try.prog 73 #[.slice (some ad) n c, .int .i64 at_] w fun e w' => e = .returned (.tuple #[.int .i64 (reach (mR x) n at_).1, .int .i64 (reach (mR x) n at_).2]) ∧ w.grownBy w' none := by
  go_enter Try.func73, Try.ntmps73
  go_wp2
  go_loopw [6] (fun i wr => ∃ j : Nat, j ≤ at_ ∧ i = .int .i64 j ∧ lo (mR x) j = lo (mR x) at_ ∧ w.grownBy wr none) (fun i _ => (intOf i).toNat)
  case atStart => exact ⟨at_, Nat.le_refl _, rfl, rfl, World.grownBy.refl _ _⟩
  case round =>
    obtain ⟨j, hj, rfl, hlo, hg⟩ := hrel
    have hrd := ha.kept0 hg hB
    by_cases h0 : j = 0
    · subst h0
      have HLO := Lib.hid (lo_zero hlo)
      clear hlo hrd
      go_wp2
      go_quiet (fail)
      go_wp2
      go_loopw [7] (fun i wr => ∃ j : Nat, at_ ≤ j ∧ j < n ∧ i = .int .i64 j ∧ hi (mR x) (n - 1 - j) j = hi (mR x) (n - 1 - at_) at_ ∧ w.grownBy wr none) (fun i _ => n - (intOf i).toNat)
      case atStart => exact ⟨at_, Nat.le_refl _, hat, rfl, rfl, hg.trans (gb_drewN _ _ _)⟩
      case round =>
        clear hg
        obtain ⟨m, hm, hmn, rfl, hhi, hg⟩ := hrel
        have hrd := ha.kept0 hg hB
        have hc := cell_at hrd hmn _ rfl
        have p0 : (0 : Int) ≤ m := by omega
        have p1 : (m : Int) < n := by omega
        have s1 : IntKind.i64.wrap ((m : Int) + 1) = (m : Int) + 1 := IntWalk.i64_in _ (by omega)
        have s2 : (0 : Int) ≤ (m : Int) + 1 := by omega
        have s3 : ((m : Int) + 1).toNat = m + 1 := by omega
        by_cases hlt : m + 1 < n
        · have hd := cell_at hrd hlt _ rfl
          rw [add_succ] at hd
          have hhs : hi (mR x) (n - 1 - m) m = if (mR x) m (m + 1) then hi (mR x) (n - 1 - (m + 1)) (m + 1) else m := by
            rw [show n - 1 - m = (n - 1 - (m + 1)) + 1 from by omega]; exact hi_succ (mR x) _ _
          have s4 : (m : Int) + 1 < n := by omega
          by_cases hr : (mR x) m (m + 1) = true
          · have hhi2 : hi (mR x) (n - 1 - (m + 1)) (m + 1) = hi (mR x) (n - 1 - at_) at_ := by rw [← hhi, hhs, if_pos hr]
            have HHI := Lib.hid hhi2
            have hb : (FloatKind.f32.format.order (x (m + 1)) (x m) == some .lt || FloatKind.f32.format.order (x (m + 1)) (x m) == some .eq) = true := hr
            clear hhi2 hhs hhi hr hrd
            go_wp2
            go_quiet (fail)
            go_wp2
            clear s1 s3
            go_roundw
            case rel => exact ⟨m + 1, by omega, by omega, by go_num, HHI.out, hg.trans (gb_drewN _ _ _)⟩
            case measure => simp [intOf]; omega
          · have hr' : (mR x) m (m + 1) = false := by simpa using hr
            have hhi2 : hi (mR x) (n - 1 - at_) at_ = m := by rw [← hhi, hhs, if_neg hr]
            have HHI := Lib.hid hhi2
            have hb : (FloatKind.f32.format.order (x (m + 1)) (x m) == some .lt || FloatKind.f32.format.order (x (m + 1)) (x m) == some .eq) = false := hr'
            clear hhi2 hhs hhi hr hr' hrd
            go_wp2
            go_quiet (fail)
            go_wp2
            go_ret2
            exact ⟨by unfold reach; rw [HLO.out, HHI.out]; rfl, hg.trans (gb_drewN _ _ _)⟩
        · have hhi2 : hi (mR x) (n - 1 - at_) at_ = m := by rw [← hhi, show n - 1 - m = 0 from by omega]; rfl
          have HHI := Lib.hid hhi2
          have s4 : decide ((m : Int) + 1 < n) = false := by simp; omega
          clear hhi2 hhi hrd
          go_wp2
          go_quiet (fail)
          go_wp2
          go_ret2
          exact ⟨by unfold reach; rw [HLO.out, HHI.out]; rfl, hg.trans (gb_drewN _ _ _)⟩
    · obtain ⟨i, hij⟩ : ∃ i, j = i + 1 := ⟨j - 1, by omega⟩
      have hjn : j < n := by omega
      have hin : i < n := by omega
      have hc := cell_at hrd hjn _ rfl
      have hd := cell_at hrd hin _ rfl
      have hls : lo (mR x) j = if (mR x) j i then lo (mR x) i else j := by subst hij; exact lo_succ (mR x) i
      have p0 : 0 < j := by omega
      have p1 : (j : Int) < n := by omega
      have p2 : (0 : Int) ≤ i := by omega
      have p3 : (i : Int) < n := by omega
      have hsub : IntKind.i64.wrap ((j : Int) - 1) = (i : Int) := by rw [show (j : Int) - 1 = (i : Int) from by omega]; exact IntWalk.i64_in _ (by omega)
      have hsub' : (j : Int) - 1 = (i : Int) := by omega
      have HIJ := Lib.hid hij
      clear hij hrd h0
      by_cases hr : (mR x) j i = true
      · have hlo2 : lo (mR x) i = lo (mR x) at_ := by rw [← hlo, hls, if_pos hr]
        have HLO := Lib.hid hlo2
        have hb : (FloatKind.f32.format.order (x i) (x j) == some .lt || FloatKind.f32.format.order (x i) (x j) == some .eq) = true := hr
        clear hlo2 hls hlo hr
        go_wp2
        go_quiet (fail)
        go_wp2
        go_roundw
        case rel => exact ⟨i, by omega, by go_num, HLO.out, hg.trans (gb_drewN _ _ _)⟩
        case measure => simp [intOf]; omega
      · have hr' : (mR x) j i = false := by simpa using hr
        have hlo2 : lo (mR x) at_ = j := by rw [← hlo, hls, if_neg hr]
        have HLO := Lib.hid hlo2
        have hb : (FloatKind.f32.format.order (x i) (x j) == some .lt || FloatKind.f32.format.order (x i) (x j) == some .eq) = false := hr'
        clear hlo2 hls hlo hr hr'
        go_wp2
        go_quiet (fail)
        go_wp2
        clear hsub hsub' hc hd p0 p1 p2 p3 hb
        go_loopw [7] (fun i wr => ∃ j : Nat, at_ ≤ j ∧ j < n ∧ i = .int .i64 j ∧ hi (mR x) (n - 1 - j) j = hi (mR x) (n - 1 - at_) at_ ∧ w.grownBy wr none) (fun i _ => n - (intOf i).toNat)
        case atStart => exact ⟨at_, Nat.le_refl _, hat, rfl, rfl, hg.trans (gb_drewN _ _ _)⟩
        case round =>
          clear hg
          obtain ⟨m, hm, hmn, rfl, hhi, hg⟩ := hrel
          have hrd := ha.kept0 hg hB
          have hc := cell_at hrd hmn _ rfl
          have p0 : (0 : Int) ≤ m := by omega
          have p1 : (m : Int) < n := by omega
          have s1 : IntKind.i64.wrap ((m : Int) + 1) = (m : Int) + 1 := IntWalk.i64_in _ (by omega)
          have s2 : (0 : Int) ≤ (m : Int) + 1 := by omega
          have s3 : ((m : Int) + 1).toNat = m + 1 := by omega
          by_cases hlt : m + 1 < n
          · have hd := cell_at hrd hlt _ rfl
            rw [add_succ] at hd
            have hhs : hi (mR x) (n - 1 - m) m = if (mR x) m (m + 1) then hi (mR x) (n - 1 - (m + 1)) (m + 1) else m := by
              rw [show n - 1 - m = (n - 1 - (m + 1)) + 1 from by omega]; exact hi_succ (mR x) _ _
            have s4 : (m : Int) + 1 < n := by omega
            by_cases hr : (mR x) m (m + 1) = true
            · have hhi2 : hi (mR x) (n - 1 - (m + 1)) (m + 1) = hi (mR x) (n - 1 - at_) at_ := by rw [← hhi, hhs, if_pos hr]
              have HHI := Lib.hid hhi2
              have hb : (FloatKind.f32.format.order (x (m + 1)) (x m) == some .lt || FloatKind.f32.format.order (x (m + 1)) (x m) == some .eq) = true := hr
              clear hhi2 hhs hhi hr hrd
              go_wp2
              go_quiet (fail)
              go_wp2
              clear s1 s3
              go_roundw
              case rel => exact ⟨m + 1, by omega, by omega, by go_num, HHI.out, hg.trans (gb_drewN _ _ _)⟩
              case measure => simp [intOf]; omega
            · have hr' : (mR x) m (m + 1) = false := by simpa using hr
              have hhi2 : hi (mR x) (n - 1 - at_) at_ = m := by rw [← hhi, hhs, if_neg hr]
              have HHI := Lib.hid hhi2
              have hb : (FloatKind.f32.format.order (x (m + 1)) (x m) == some .lt || FloatKind.f32.format.order (x (m + 1)) (x m) == some .eq) = false := hr'
              clear hhi2 hhs hhi hr hr' hrd
              go_wp2
              go_quiet (fail)
              go_wp2
              go_ret2
              exact ⟨by unfold reach; rw [HLO.out, HHI.out]; rfl, hg.trans (gb_drewN _ _ _)⟩
          · have hhi2 : hi (mR x) (n - 1 - at_) at_ = m := by rw [← hhi, show n - 1 - m = 0 from by omega]; rfl
            have HHI := Lib.hid hhi2
            have s4 : decide ((m : Int) + 1 < n) = false := by simp; omega
            clear hhi2 hhi hrd
            go_wp2
            go_quiet (fail)
            go_wp2
            go_ret2
            exact ⟨by unfold reach; rw [HLO.out, HHI.out]; rfl, hg.trans (gb_drewN _ _ _)⟩

theorem ci_yes (A : Option Addr) (n c k : Nat) (w : World) (hn : n ≤ 129) (hk : k < n) :
    Calls Try.prog 112 #[.slice A n c, .int .i64 k] w fun e w' => e = .returned (.bool true) ∧ w = w' := by
  have p0 : (0 : Int) ≤ k := by omega
  have p1 : (k : Int) ≤ (n : Int) - 1 := by omega
  have p2 : (0 : Int) ≤ (n : Int) - 1 := by omega
  go_enter Try.func112, Try.ntmps112
  go_wp2_with fail
  refine (cut_yes _ _ _ _ (by omega) hn).mono ?_
  rintro e w' ⟨rfl, rfl⟩
  go_wp2_with fail
  refine (within_yes _ _ _ _ p0 p1).mono ?_
  rintro e w' ⟨rfl, rfl⟩
  go_wp2_with fail
  go_ret
  exact ⟨rfl, rfl⟩
theorem ci_no (A : Option Addr) (n c : Nat) (a : Int) (w : World) (hm : n ≤ 9223372036854775807) (h : ¬ ((1 ≤ n ∧ n ≤ 129) ∧ 0 ≤ a ∧ a ≤ (n : Int) - 1)) :
    Calls Try.prog 112 #[.slice A n c, .int .i64 a] w fun e w' => e = .returned (.bool false) ∧ w = w' := by
  by_cases hn : 1 ≤ n ∧ n ≤ 129
  · have ha : a < 0 ∨ (n : Int) - 1 < a := by omega
    have p2 : (0 : Int) ≤ (n : Int) - 1 := by omega
    have p3 : (n : Int) ≤ 129 := by omega
    clear h
    go_enter Try.func112, Try.ntmps112
    go_wp2_with fail
    refine (cut_yes _ _ _ _ hn.1 hn.2).mono ?_
    rintro e w' ⟨rfl, rfl⟩
    go_wp2_with fail
    refine (within_no _ _ _ _ ha).mono ?_
    rintro e w' ⟨rfl, rfl⟩
    go_wp2_with fail
    go_ret
    exact ⟨rfl, rfl⟩
  · have hn' : n < 1 ∨ 129 < n := by omega
    clear h hn
    go_enter Try.func112, Try.ntmps112
    go_wp2_with fail
    refine (cut_no _ _ _ _ hn' hm).mono ?_
    rintro e w' ⟨rfl, rfl⟩
    go_wp2_with fail
    go_ret
    exact ⟨rfl, rfl⟩

/-- MainLobe, told. -/
def mainT (x : Nat → Nat) (n : Nat) (a : Int) : Int × Int × Bool :=
  if (1 ≤ n ∧ n ≤ 129) ∧ 0 ≤ a ∧ a ≤ (n : Int) - 1 then ((reach (mR x) n a.toNat).1, (reach (mR x) n a.toNat).2, true) else (0, 0, false)

set_option maxHeartbeats 400000 in
theorem mainL_impl (A : Option Addr) (n c B : Nat) (a : Int) (x : Nat → Nat) (w : World) (hm : n ≤ 9223372036854775807) (hB : B ≤ w.heap.size) (ha : Rd w B A n (fl x)) :
    Calls Try.prog 74 #[.slice A n c, .int .i64 a] w fun e w' => e = .returned (.tuple #[.int .i64 (mainT x n a).1, .int .i64 (mainT x n a).2.1, .bool (mainT x n a).2.2]) ∧ w.grownBy w' none := by
  by_cases h : (1 ≤ n ∧ n ≤ 129) ∧ 0 ≤ a ∧ a ≤ (n : Int) - 1
  · obtain ⟨k, rfl⟩ : ∃ k : Nat, a = (k : Int) := ⟨a.toNat, by omega⟩
    have hk : k < n := by omega
    have hT : mainT x n k = (((reach (mR x) n k).1 : Int), ((reach (mR x) n k).2 : Int), true) := by unfold mainT; rw [if_pos h]; rfl
    rw [hT]
    have HR := fun w hB ha => main_reach A n c B k x (mR x) w h.1.2 hk hB ha (fun a b w1 => main_cl (x a) (x b) w1)
    generalize reach (mR x) n k = R at HR
    have hci := fun w => ci_yes A n c k w h.1.2 hk
    clear hT h
    go_enter Try.func74, Try.ntmps74
    go_wp2_with fail
    refine (hci _).mono ?_
    rintro e w' ⟨rfl, rfl⟩
    go_wp2_with fail
    refine (HR _ hB ha).mono ?_
    rintro e w' ⟨rfl, hg⟩
    go_wp2_with fail
    go_ret3
    exact ⟨rfl, hg⟩
  · have hT : mainT x n a = (0, 0, false) := by unfold mainT; rw [if_neg h]
    rw [hT]
    have hci := fun w => ci_no A n c a w hm h
    clear hT h
    go_enter Try.func74, Try.ntmps74
    go_wp2_with fail
    refine (hci _).mono ?_
    rintro e w' ⟨rfl, rfl⟩
    go_wp2_with fail
    go_ret3
    exact ⟨rfl, World.grownBy.refl _ _⟩

theorem mainL_spec : True := trivial

end Go.Proofs.Ytjmgohlepglkoaa.reach2
