/- WidthOf, by the program and by the model. -/
import Derived.Test.YthnifmgjgdmmoaaRows
import Derived.Test.YthnifmgjgdmmoaaSlc
import Derived.Test.YthnifmgjgdmmoaaSmall
import Derived.Test.YthnifmgjgdmmoaaFloats
import Derived.Test.YthnifmgjgdmmoaaRound
import Derived.Test.YthnifmgjgdmmoaaValues
import Derived.Test.YthnifmgjgdmmoaaConv
import Derived.Test.YthnifmgjgdmmoaaFWalk
import Derived.Test.YthnifmgjgdmmoaaCut
import Derived.Test.YthnifmgjgdmmoaaListF
import Derived.Test.YthnifmgjgdmmoaaPeak
import Derived.Test.YthnifmgjgdmmoaaReach
import Derived.Test.YthnifmgjgdmmoaaReach2
import Derived.WalkKit
import Derived.ProofKit
import Derived.OpenShut
import Derived.ShutString
import Derived.ChangeOld
import Derived.Below
import Derived.Lib.Hide
import Derived.BigQuiet
import Derived.Deep.QuietTactic
import Derived.WalkLawsBesides
import Derived.Outline
import Derived.Deep.QuietTactic
import Derived.BigQuiet
import Derived.Deep.LoopGhost
import Derived.Deep.RegionHeld3
import Derived.Laws.Cover2
namespace Go.Proofs.Ythnifmgjgdmmoaa.width
open Go.ChangeShapes Go.WideShapes Go.ChangeAt Go.RowKit
open Go.ChangeMaps (open_string shut_string)
set_option linter.unusedVariables false
open Go Ieee Go.RowKit
open Go.Proofs.Ythnifmgjgdmmoaa.slc Go.Proofs.Ythnifmgjgdmmoaa.small Go.Proofs.Ythnifmgjgdmmoaa.floats Go.Proofs.Ythnifmgjgdmmoaa.round Go.Proofs.Ythnifmgjgdmmoaa.values Go.Proofs.Ythnifmgjgdmmoaa.conv Go.Proofs.Ythnifmgjgdmmoaa.fWalk Go.Proofs.Ythnifmgjgdmmoaa.cut Go.Proofs.Ythnifmgjgdmmoaa.listF Go.Proofs.Ythnifmgjgdmmoaa.peak Go.Proofs.Ythnifmgjgdmmoaa.reach Go.Proofs.Ythnifmgjgdmmoaa.reach2

theorem q_few_yes (A : Option Addr) (n c : Nat) (w : World) (h : 1 ≤ n) (h2 : n ≤ 129) :
    Calls Try.prog 63 #[.slice A n c] w fun e w' => e = .returned (.bool true) ∧ w' = w :=
  (few_yes A n c w h h2).mono fun _ _ ⟨a, b⟩ => ⟨a, b.symm⟩
theorem q_few_no (A : Option Addr) (n c : Nat) (w : World) (h : n < 1 ∨ 129 < n) (hm : n ≤ 9223372036854775807) :
    Calls Try.prog 63 #[.slice A n c] w fun e w' => e = .returned (.bool false) ∧ w' = w :=
  (few_no A n c w h hm).mono fun _ _ ⟨a, b⟩ => ⟨a, b.symm⟩
theorem q_in_yes (n lo hi : Int) (w : World) (h : lo ≤ n) (h2 : n ≤ hi) :
    Calls Try.prog 71 #[.int .i64 n, .int .i64 lo, .int .i64 hi] w fun e w' => e = .returned (.bool true) ∧ w' = w :=
  (in_yes n lo hi w h h2).mono fun _ _ ⟨a, b⟩ => ⟨a, b.symm⟩
theorem q_in_no (n lo hi : Int) (w : World) (h : n < lo ∨ hi < n) :
    Calls Try.prog 71 #[.int .i64 n, .int .i64 lo, .int .i64 hi] w fun e w' => e = .returned (.bool false) ∧ w' = w :=
  (in_no n lo hi w h).mono fun _ _ ⟨a, b⟩ => ⟨a, b.symm⟩

set_option maxHeartbeats 1600000 in
set_option maxRecDepth 100000 in
theorem width_spec (ad : Addr) (n c B at_ : Nat) (x : Nat → Nat) (hv : Nat) (hx0 : FloatKind.f32.format.order (x at_) (x at_) = some .eq) (hq : floatBits .quo .f32 (x at_) 1073741824 = some hv) (hge : (FloatKind.f32.format.order (x at_) hv == some .gt || FloatKind.f32.format.order (x at_) hv == some .eq) = true) (w : World) (hn : n ≤ 129) (hat : at_ < n) (hB : B ≤ w.heap.size) (ha : Rd w B (some ad) n (fl x)) :
    Calls Try.prog 27 #[.slice (some ad) n c, .int .i64 at_] w fun e w' => e = .returned (.tuple #[.int .i64 (reach (wR x hv) n at_).1, .int .i64 (reach (wR x hv) n at_).2, .bool true]) ∧ w.grownBy w' none := by
  have hx := cell_at ha hat _ rfl
  have p0 : (0 : Int) ≤ at_ := by omega
  have p1 : (at_ : Int) < n := by omega
  have p2 : (at_ : Int) ≤ (n : Int) - 1 := by omega
  have hw0 : IntKind.i64.wrap ((n : Int) - 1) = (n : Int) - 1 := IntWalk.i64_in _ (by omega)
  have hrun : ∀ (w : World) (t : TypeId), (binOp .quo t (.float .f32 (x at_)) (.float .f32 1073741824)).run Try.prog w = .ok (.float .f32 hv) w := fun w t => run_float_arith w .quo t .f32 _ _ _ hq
  clear hq
  go_enter Try.func27, Try.ntmps27
  go_wp2_with fail
  go_quiet ((first
      | (go_at_call 63; exact Calls.quiet_of_same (q_few_yes _ _ _ _ (by omega) hn))
      | (go_at_call 71; exact Calls.quiet_of_same (q_in_yes _ _ _ _ p0 p2))))
  go_wp2
  go_loopw [8] (fun i wr => ∃ j : Nat, j ≤ at_ ∧ i = .int .i64 j ∧ lo (wR x hv) j = lo (wR x hv) at_ ∧ w.grownBy wr none) (fun i _ => (intOf i).toNat)
  case atStart => exact ⟨at_, Nat.le_refl _, rfl, rfl, gb_drewN _ _ _⟩
  case round =>
    obtain ⟨j, hj, rfl, hlo, hg⟩ := hrel
    have hrd := ha.kept0 hg hB
    by_cases h0 : j = 0
    · subst h0
      have HLO := Lib.hid (lo_zero hlo)
      clear hlo hrd
      go_wp2
      go_loopw [9] (fun i wr => ∃ j : Nat, at_ ≤ j ∧ j < n ∧ i = .int .i64 j ∧ hi (wR x hv) (n - 1 - j) j = hi (wR x hv) (n - 1 - at_) at_ ∧ w.grownBy wr none) (fun i _ => n - (intOf i).toNat)
      case atStart => exact ⟨at_, Nat.le_refl _, hat, rfl, rfl, hg⟩
      case round =>
        clear hg
        obtain ⟨m, hm, hmn, rfl, hhi, hg⟩ := hrel
        have hrd := ha.kept0 hg hB
        have hc := cell_at hrd hmn _ rfl
        have p0 : (0 : Int) ≤ m := by omega
        have p1 : (m : Int) < n := by omega
        have s1 : IntKind.i64.wrap ((m : Int) + 1) = (m : Int) + 1 := IntWalk.i64_in _ (by omega)
        have s2 : (0 : Int) ≤ (m : Int) + 1 := by omega
        have s3 : ((m : Int) + 1).toNat = m + 1 := by omega
        by_cases hlt : m + 1 < n
        · have hd := cell_at hrd hlt _ rfl
          rw [add_succ] at hd
          have hhs : hi (wR x hv) (n - 1 - m) m = if (wR x hv) m (m + 1) then hi (wR x hv) (n - 1 - (m + 1)) (m + 1) else m := by
            rw [show n - 1 - m = (n - 1 - (m + 1)) + 1 from by omega]; exact hi_succ (wR x hv) _ _
          have s4 : (m : Int) + 1 < n := by omega
          by_cases hr : (wR x hv) m (m + 1) = true
          · have hhi2 : hi (wR x hv) (n - 1 - (m + 1)) (m + 1) = hi (wR x hv) (n - 1 - at_) at_ := by rw [← hhi, hhs, if_pos hr]
            have HHI := Lib.hid hhi2
            have hb : (FloatKind.f32.format.order (x (m + 1)) hv == some .gt || FloatKind.f32.format.order (x (m + 1)) hv == some .eq) = true := hr
            clear hhi2 hhs hhi hr hrd
            go_wp2
            clear s1 s3
            go_roundw
            case rel => exact ⟨m + 1, by omega, by omega, by go_num, HHI.out, hg⟩
            case measure => simp [intOf]; omega
          · have hr' : (wR x hv) m (m + 1) = false := by simpa using hr
            have hhi2 : hi (wR x hv) (n - 1 - at_) at_ = m := by rw [← hhi, hhs, if_neg hr]
            have HHI := Lib.hid hhi2
            have hb : (FloatKind.f32.format.order (x (m + 1)) hv == some .gt || FloatKind.f32.format.order (x (m + 1)) hv == some .eq) = false := hr'
            clear hhi2 hhs hhi hr hr' hrd
            go_wp2
            go_ret3
            exact ⟨by unfold reach; rw [HLO.out, HHI.out]; rfl, hg⟩
        · have hhi2 : hi (wR x hv) (n - 1 - at_) at_ = m := by rw [← hhi, show n - 1 - m = 0 from by omega]; rfl
          have HHI := Lib.hid hhi2
          have s4 : decide ((m : Int) + 1 < n) = false := by simp; omega
          clear hhi2 hhi hrd
          go_wp2
          go_ret3
          exact ⟨by unfold reach; rw [HLO.out, HHI.out]; rfl, hg⟩
    · obtain ⟨i, hij⟩ : ∃ i, j = i + 1 := ⟨j - 1, by omega⟩
      have hjn : j < n := by omega
      have hin : i < n := by omega
      have hc := cell_at hrd hjn _ rfl
      have hd := cell_at hrd hin _ rfl
      have hls : lo (wR x hv) j = if (wR x hv) j i then lo (wR x hv) i else j := by subst hij; exact lo_succ (wR x hv) i
      have p0 : 0 < j := by omega
      have p1 : (j : Int) < n := by omega
      have p2 : (0 : Int) ≤ i := by omega
      have p3 : (i : Int) < n := by omega
      have hsub : IntKind.i64.wrap ((j : Int) - 1) = (i : Int) := by rw [show (j : Int) - 1 = (i : Int) from by omega]; exact IntWalk.i64_in _ (by omega)
      have hsub' : (j : Int) - 1 = (i : Int) := by omega
      have HIJ := Lib.hid hij
      clear hij hrd h0
      by_cases hr : (wR x hv) j i = true
      · have hlo2 : lo (wR x hv) i = lo (wR x hv) at_ := by rw [← hlo, hls, if_pos hr]
        have HLO := Lib.hid hlo2
        have hb : (FloatKind.f32.format.order (x i) hv == some .gt || FloatKind.f32.format.order (x i) hv == some .eq) = true := hr
        clear hlo2 hls hlo hr
        go_wp2
        go_roundw
        case rel => exact ⟨i, by omega, by go_num, HLO.out, hg⟩
        case measure => simp [intOf]; omega
      · have hr' : (wR x hv) j i = false := by simpa using hr
        have hlo2 : lo (wR x hv) at_ = j := by rw [← hlo, hls, if_neg hr]
        have HLO := Lib.hid hlo2
        have hb : (FloatKind.f32.format.order (x i) hv == some .gt || FloatKind.f32.format.order (x i) hv == some .eq) = false := hr'
        clear hlo2 hls hlo hr hr'
        go_wp2
        clear hsub hsub' hc hd p0 p1 p2 p3 hb
        go_loopw [9] (fun i wr => ∃ j : Nat, at_ ≤ j ∧ j < n ∧ i = .int .i64 j ∧ hi (wR x hv) (n - 1 - j) j = hi (wR x hv) (n - 1 - at_) at_ ∧ w.grownBy wr none) (fun i _ => n - (intOf i).toNat)
        case atStart => exact ⟨at_, Nat.le_refl _, hat, rfl, rfl, hg⟩
        case round =>
          clear hg
          obtain ⟨m, hm, hmn, rfl, hhi, hg⟩ := hrel
          have hrd := ha.kept0 hg hB
          have hc := cell_at hrd hmn _ rfl
          have p0 : (0 : Int) ≤ m := by omega
          have p1 : (m : Int) < n := by omega
          have s1 : IntKind.i64.wrap ((m : Int) + 1) = (m : Int) + 1 := IntWalk.i64_in _ (by omega)
          have s2 : (0 : Int) ≤ (m : Int) + 1 := by omega
          have s3 : ((m : Int) + 1).toNat = m + 1 := by omega
          by_cases hlt : m + 1 < n
          · have hd := cell_at hrd hlt _ rfl
            rw [add_succ] at hd
            have hhs : hi (wR x hv) (n - 1 - m) m = if (wR x hv) m (m + 1) then hi (wR x hv) (n - 1 - (m + 1)) (m + 1) else m := by
              rw [show n - 1 - m = (n - 1 - (m + 1)) + 1 from by omega]; exact hi_succ (wR x hv) _ _
            have s4 : (m : Int) + 1 < n := by omega
            by_cases hr : (wR x hv) m (m + 1) = true
            · have hhi2 : hi (wR x hv) (n - 1 - (m + 1)) (m + 1) = hi (wR x hv) (n - 1 - at_) at_ := by rw [← hhi, hhs, if_pos hr]
              have HHI := Lib.hid hhi2
              have hb : (FloatKind.f32.format.order (x (m + 1)) hv == some .gt || FloatKind.f32.format.order (x (m + 1)) hv == some .eq) = true := hr
              clear hhi2 hhs hhi hr hrd
              go_wp2
              clear s1 s3
              go_roundw
              case rel => exact ⟨m + 1, by omega, by omega, by go_num, HHI.out, hg⟩
              case measure => simp [intOf]; omega
            · have hr' : (wR x hv) m (m + 1) = false := by simpa using hr
              have hhi2 : hi (wR x hv) (n - 1 - at_) at_ = m := by rw [← hhi, hhs, if_neg hr]
              have HHI := Lib.hid hhi2
              have hb : (FloatKind.f32.format.order (x (m + 1)) hv == some .gt || FloatKind.f32.format.order (x (m + 1)) hv == some .eq) = false := hr'
              clear hhi2 hhs hhi hr hr' hrd
              go_wp2
              go_ret3
              exact ⟨by unfold reach; rw [HLO.out, HHI.out]; rfl, hg⟩
          · have hhi2 : hi (wR x hv) (n - 1 - at_) at_ = m := by rw [← hhi, show n - 1 - m = 0 from by omega]; rfl
            have HHI := Lib.hid hhi2
            have s4 : decide ((m : Int) + 1 < n) = false := by simp; omega
            clear hhi2 hhi hrd
            go_wp2
            go_ret3
            exact ⟨by unfold reach; rw [HLO.out, HHI.out]; rfl, hg⟩

/-- Half of a number. -/
def hvF (a : Nat) : Nat := (floatBits .quo .f32 a 1073741824).getD 0
theorem hvF_ok {a : Nat} (h : isNaN .f32 a = false) : floatBits .quo .f32 a 1073741824 = some (hvF a) := by
  obtain ⟨r, hr⟩ := half_some h
  unfold hvF; rw [hr]; rfl
def geB (a h : Nat) : Bool := FloatKind.f32.format.order a h == some .gt || FloatKind.f32.format.order a h == some .eq
/-- WidthOf, told. -/
def widthT (x : Nat → Nat) (n : Nat) (a : Int) : Int × Int × Bool :=
  if ((1 ≤ n ∧ n ≤ 129) ∧ 0 ≤ a ∧ a ≤ (n : Int) - 1) ∧ isNaN .f32 (x a.toNat) = false ∧ geB (x a.toNat) (hvF (x a.toNat)) = true then
    ((reach (wR x (hvF (x a.toNat))) n a.toNat).1, (reach (wR x (hvF (x a.toNat))) n a.toNat).2, true) else (0, 0, false)
/-- The four ways. -/
theorem width_cases (x : Nat → Nat) (n : Nat) (a : Int) :
    (¬ ((1 ≤ n ∧ n ≤ 129) ∧ 0 ≤ a ∧ a ≤ (n : Int) - 1) ∧ widthT x n a = (0, 0, false)) ∨
    (∃ k : Nat, a = (k : Int) ∧ (1 ≤ n ∧ n ≤ 129) ∧ k < n ∧
      ((isNaN .f32 (x k) = true ∧ widthT x n a = (0, 0, false)) ∨
       (isNaN .f32 (x k) = false ∧ geB (x k) (hvF (x k)) = false ∧ widthT x n a = (0, 0, false)) ∨
       (isNaN .f32 (x k) = false ∧ geB (x k) (hvF (x k)) = true ∧ widthT x n a = (((reach (wR x (hvF (x k))) n k).1 : Int), ((reach (wR x (hvF (x k))) n k).2 : Int), true)))) := by
  by_cases h : (1 ≤ n ∧ n ≤ 129) ∧ 0 ≤ a ∧ a ≤ (n : Int) - 1
  · right
    obtain ⟨k, rfl⟩ : ∃ k : Nat, a = (k : Int) := ⟨a.toNat, by omega⟩
    refine ⟨k, rfl, h.1, by omega, ?_⟩
    unfold widthT
    rw [Int.toNat_natCast]
    cases hn : isNaN .f32 (x k)
    · cases hg : geB (x k) (hvF (x k))
      · exact .inr (.inl ⟨rfl, rfl, by rw [if_neg (fun q => by cases q.2.2)]⟩)
      · exact .inr (.inr ⟨rfl, rfl, by rw [if_pos ⟨h, rfl, rfl⟩]⟩)
    · exact .inl ⟨rfl, by rw [if_neg (fun q => by cases q.2.1)]⟩
  · left
    exact ⟨h, by unfold widthT; rw [if_neg (fun q => h q.1)]⟩

set_option maxHeartbeats 800000 in
theorem widthL_spec (A : Option Addr) (n c B : Nat) (a : Int) (x : Nat → Nat) (w : World) (hm : n ≤ 9223372036854775807) (hB : B ≤ w.heap.size) (ha : Rd w B A n (fl x)) :
    Calls Try.prog 27 #[.slice A n c, .int .i64 a] w fun e w' => e = .returned (.tuple #[.int .i64 (widthT x n a).1, .int .i64 (widthT x n a).2.1, .bool (widthT x n a).2.2]) ∧ w.grownBy w' none := by
  rcases width_cases x n a with ⟨h, hT⟩ | ⟨k, rfl, hn, hk, hh⟩
  · rw [hT]
    clear hT
    by_cases hn : 1 ≤ n ∧ n ≤ 129
    · have h' : a < 0 ∨ (n : Int) - 1 < a := by omega
      have hw0 : IntKind.i64.wrap ((n : Int) - 1) = (n : Int) - 1 := IntWalk.i64_in _ (by omega)
      clear h
      go_enter Try.func27, Try.ntmps27
      go_wp2_with fail
      go_quiet ((first
          | (go_at_call 63; exact Calls.quiet_of_same (q_few_yes _ _ _ _ hn.1 hn.2))
          | (go_at_call 71; exact Calls.quiet_of_same (q_in_no _ _ _ _ h'))))
      go_wp2
      go_ret3
      exact ⟨rfl, gb_drewN _ _ _⟩
    · have hn' : n < 1 ∨ 129 < n := by omega
      clear h hn
      go_enter Try.func27, Try.ntmps27
      go_wp2_with fail
      go_quiet ((go_at_call 63; exact Calls.quiet_of_same (q_few_no _ _ _ _ hn' hm)))
      go_wp2
      go_ret3
      exact ⟨rfl, gb_drewN _ _ _⟩
  · obtain ⟨ad, rfl, _, hz⟩ := ha.at_ hk
    clear hz
    have hx := cell_at ha hk _ rfl
    have p0 : (0 : Int) ≤ k := by omega
    have p1 : (k : Int) < n := by omega
    have p2 : (k : Int) ≤ (n : Int) - 1 := by omega
    have hw0 : IntKind.i64.wrap ((n : Int) - 1) = (n : Int) - 1 := IntWalk.i64_in _ (by omega)
    rcases hh with ⟨hnn, hT⟩ | ⟨hnn, hg, hT⟩ | ⟨hnn, hg, hT⟩
    · rw [hT]
      have ho : FloatKind.f32.format.order (x k) (x k) = none := order_nan_l hnn
      clear hT hnn
      go_enter Try.func27, Try.ntmps27
      go_wp2_with fail
      go_quiet ((first
          | (go_at_call 63; exact Calls.quiet_of_same (q_few_yes _ _ _ _ hn.1 hn.2))
          | (go_at_call 71; exact Calls.quiet_of_same (q_in_yes _ _ _ _ p0 p2))))
      go_wp2
      go_ret3
      exact ⟨rfl, gb_drewN _ _ _⟩
    · rw [hT]
      have ho : FloatKind.f32.format.order (x k) (x k) = some .eq := order_refl hnn
      have hq := hvF_ok hnn
      have hrun : ∀ (w : World) (t : TypeId), (binOp .quo t (.float .f32 (x k)) (.float .f32 1073741824)).run Try.prog w = .ok (.float .f32 (hvF (x k))) w := fun w t => run_float_arith w .quo t .f32 _ _ _ hq
      unfold geB at hg
      clear hT hnn hq
      generalize hvF (x k) = hv at hrun hg
      go_enter Try.func27, Try.ntmps27
      go_wp2_with fail
      go_quiet ((first
          | (go_at_call 63; exact Calls.quiet_of_same (q_few_yes _ _ _ _ hn.1 hn.2))
          | (go_at_call 71; exact Calls.quiet_of_same (q_in_yes _ _ _ _ p0 p2))))
      go_wp2
      go_ret3
      exact ⟨rfl, gb_drewN _ _ _⟩
    · rw [hT]
      exact width_spec ad n c B k x (hvF (x k)) (order_refl hnn) (hvF_ok hnn) hg w hn.2 hk hB ha

theorem box1 (W : World) (v : Value) (t : TypeId) : (W.alloc (.cells #[v] t)).cell? ⟨W.heap.size, 0, none⟩ = some v := cell_of_row _ _ 0 _ _ _ (heap_alloc_new W _)
theorem box_set (w : World) (q : Nat) (v0 v : Value) (t : TypeId) : w.grownBy (((w.drewN q).alloc (.cells #[v0] t)).setCell ⟨w.heap.size, 0, none⟩ v) none ∧ (((w.drewN q).alloc (.cells #[v0] t)).setCell ⟨w.heap.size, 0, none⟩ v).cell? ⟨w.heap.size, 0, none⟩ = some v := by
  refine ⟨(gb_drewN w q none).trans (gb_of_below (((Below.refl _ _).alloc (Nat.le_refl _) _).setCell (Nat.le_refl _) _)), ?_⟩
  exact World.cell?_setCell_same _ _ _ (box1 (w.drewN q) v0 t)
section
attribute [local go_sem] run_fquo run_store_float
set_option maxHeartbeats 800000 in
theorem widthL_impl (A : Option Addr) (n c B : Nat) (a : Int) (x : Nat → Nat) (w : World) (hm : n ≤ 9223372036854775807) (hB : B ≤ w.heap.size) (ha : Rd w B A n (fl x)) :
    Calls Try.prog 28 #[.slice A n c, .int .i64 a] w fun e w' => e = .returned (.tuple #[.int .i64 (widthT x n a).1, .int .i64 (widthT x n a).2.1, .bool (widthT x n a).2.2]) ∧ w.grownBy w' none := by
  rcases width_cases x n a with ⟨h, hT⟩ | ⟨k, rfl, hn, hk, hh⟩
  · rw [hT]
    have hci := fun w => ci_no A n c a w hm h
    clear hT h
    go_enter Try.func28, Try.ntmps28
    go_wp2_with fail
    refine (hci _).mono ?_
    rintro e w' ⟨rfl, rfl⟩
    go_wp2_with fail
    go_ret3
    exact ⟨rfl, World.grownBy.refl _ _⟩
  · obtain ⟨ad, rfl, hab, hz⟩ := ha.at_ hk
    clear hz
    have hx := cell_at ha hk _ rfl
    have p0 : (0 : Int) ≤ k := by omega
    have p1 : (k : Int) < n := by omega
    have hci := fun w => ci_yes (some ad) n c k w hn.2 hk
    have hbl : (ad.add k).block < w.heap.size := by rw [add_block]; omega
    have hfz : ∀ q, ((w.drewN q).alloc (.cells #[.float .f32 0] 37)).frozen? ⟨w.heap.size, 0, none⟩ = false := fun q => World.frozen?_alloc_at _ _ _ _ rfl
    have hcz : ∀ q, ((w.drewN q).alloc (.cells #[.float .f32 0] 37)).cell? ⟨w.heap.size, 0, none⟩ = some (.float .f32 0) := fun q => box1 (w.drewN q) _ _
    have hfz0 := hfz 0
    have hcz0 := hcz 0
    rcases hh with ⟨hnn, hT⟩ | ⟨hnn, hg, hT⟩ | ⟨hnn, hg, hT⟩
    · rw [hT]
      have ho : ∀ h, FloatKind.f32.format.order (x k) h = none := fun h => order_nan_l hnn
      clear hT hnn
      go_enter Try.func28, Try.ntmps28
      go_wp2_with fail
      refine (hci _).mono ?_
      rintro e w' ⟨rfl, rfl⟩
      go_wp2_with fail
      obtain ⟨hgW, hcW⟩ := box_set w (fcnt .quo .f32 (x k) 1073741824) (.float .f32 0) (.float .f32 (fval .quo .f32 w (x k) 1073741824)) 37
      have hx2 := hgW.cell hx (by simp)
      clear hfz hfz0 hcz hcz0 hx
      generalize ((w.drewN (fcnt .quo .f32 (x k) 1073741824)).alloc (Obj.cells #[Value.float .f32 0] 37)).setCell ⟨w.heap.size, 0, none⟩ (Value.float .f32 (fval .quo .f32 w (x k) 1073741824)) = W2 at hgW hcW hx2 ⊢
      go_quiet (fail)
      go_wp2
      go_ret3
      exact ⟨rfl, hgW.trans (gb_drewN _ _ _)⟩
    · rw [hT]
      have hq := hvF_ok hnn
      have hrun : ∀ (w : World) (t : TypeId), (binOp .quo t (.float .f32 (x k)) (.float .f32 1073741824)).run Try.prog w = .ok (.float .f32 (hvF (x k))) w := fun w t => run_float_arith w .quo t .f32 _ _ _ hq
      unfold geB at hg
      clear hT hnn hq
      generalize hvF (x k) = hv at hrun hg
      go_enter Try.func28, Try.ntmps28
      go_wp2_with fail
      refine (hci _).mono ?_
      rintro e w' ⟨rfl, rfl⟩
      go_wp2_with fail
      have hgW := World.grownBy_alloc w (.cells #[.float .f32 hv] 37) none
      have hcW := box1 w (.float .f32 hv) 37
      have hx2 := hgW.cell hx (by simp)
      clear hfz hfz0 hcz hcz0 hx
      generalize w.alloc (Obj.cells #[Value.float .f32 hv] 37) = W2 at hgW hcW hx2 ⊢
      go_quiet (fail)
      go_wp2_with fail
      go_ret3
      exact ⟨rfl, hgW.trans (gb_drewN _ _ _)⟩
    · rw [hT]
      have hmf : ∀ (fn : Fn) (first cap : Array Value) (w : World), (Instr.makeFunc fn first cap).run Try.prog w = .ok (.func fn first cap) w := fun _ _ _ _ => rfl
      have hq := hvF_ok hnn
      have hrun : ∀ (w : World) (t : TypeId), (binOp .quo t (.float .f32 (x k)) (.float .f32 1073741824)).run Try.prog w = .ok (.float .f32 (hvF (x k))) w := fun w t => run_float_arith w .quo t .f32 _ _ _ hq
      have HR := fun w2 (hg : w.grownBy w2 none) hBh => width_reach (some ad) n c B k w.heap.size (hvF (x k)) x (wR x (hvF (x k))) w2 hn.2 hk (Nat.le_trans hB hg.size) (ha.kept0 hg hB) hBh (fun a b w1 hc => width_cl (x a) (x b) (hvF (x k)) w.heap.size w1 hc)
      unfold geB at hg
      clear hT hnn hq
      generalize reach (wR x (hvF (x k))) n k = R at HR
      generalize hvF (x k) = hv at hrun hg HR
      have HRR := Lib.hid HR
      clear HR
      go_enter Try.func28, Try.ntmps28
      go_wp2_with fail
      refine (hci _).mono ?_
      rintro e w' ⟨rfl, rfl⟩
      go_wp2_with fail
      have hgW := World.grownBy_alloc w (.cells #[.float .f32 hv] 37) none
      have hcW := box1 w (.float .f32 hv) 37
      have hx2 := hgW.cell hx (by simp)
      clear hfz hfz0 hcz hcz0 hx
      generalize w.alloc (Obj.cells #[Value.float .f32 hv] 37) = W2 at hgW hcW hx2 ⊢
      go_quiet (fail)
      go_wp2_with fail
      refine (HRR.out _ (hgW.trans (gb_drewN _ _ _)) hcW).mono ?_
      rintro e w' ⟨rfl, hg5⟩
      go_wp2_with fail
      go_ret3
      exact ⟨rfl, (hgW.trans (gb_drewN _ _ _)).trans hg5⟩
end

end Go.Proofs.Ythnifmgjgdmmoaa.width
