/- MainLobe and WidthOf, by the program and by the model. -/
import Derived.Test.YtkjmlpdbnnmlhabRows
import Derived.Test.YtkjmlpdbnnmlhabSlc
import Derived.Test.YtkjmlpdbnnmlhabSmall
import Derived.Test.YtkjmlpdbnnmlhabFloatAll
import Derived.Test.YtkjmlpdbnnmlhabFWalk
import Derived.Test.YtkjmlpdbnnmlhabCut
import Derived.Test.YtkjmlpdbnnmlhabListF
import Derived.Test.YtkjmlpdbnnmlhabPeak
import Derived.Test.YtkjmlpdbnnmlhabReach
import Derived.WalkKit
import Derived.ProofKit
import Derived.OpenShut
import Derived.ShutString
import Derived.ChangeOld
import Derived.Below
import Derived.Lib.Hide
import Derived.BigQuiet
import Derived.Deep.QuietTactic
import Derived.WalkLawsBesides
import Derived.Outline
import Derived.Deep.LoopGhost
import Derived.Deep.RegionHeld3
namespace Go.Proofs.Ytkjmlpdbnnmlhab.reach2
open Go.ChangeShapes Go.WideShapes Go.ChangeAt Go.RowKit
open Go.ChangeMaps (open_string shut_string)
set_option linter.unusedVariables false
open Go Ieee Go.RowKit
open Go.Proofs.Ytkjmlpdbnnmlhab.slc Go.Proofs.Ytkjmlpdbnnmlhab.small Go.Proofs.Ytkjmlpdbnnmlhab.floats Go.Proofs.Ytkjmlpdbnnmlhab.round Go.Proofs.Ytkjmlpdbnnmlhab.values Go.Proofs.Ytkjmlpdbnnmlhab.conv Go.Proofs.Ytkjmlpdbnnmlhab.fWalk Go.Proofs.Ytkjmlpdbnnmlhab.cut Go.Proofs.Ytkjmlpdbnnmlhab.listF Go.Proofs.Ytkjmlpdbnnmlhab.peak Go.Proofs.Ytkjmlpdbnnmlhab.reach

def mR (x : Nat → Nat) (a b : Nat) : Bool := FloatKind.f32.format.order (x b) (x a) == some .lt || FloatKind.f32.format.order (x b) (x a) == some .eq
def wR (x : Nat → Nat) (h : Nat) (a b : Nat) : Bool := FloatKind.f32.format.order (x b) h == some .gt || FloatKind.f32.format.order (x b) h == some .eq


theorem ci_yes (A : Option Addr) (n c k : Nat) (w : World) (hn : n ≤ 129) (hk : k < n) :
    Calls Try.prog 140 #[.slice A n c, .int .i64 k] w fun e w' => e = .returned (.bool true) ∧ w = w' := by
  have p0 : (0 : Int) ≤ k := by omega
  have p1 : (k : Int) ≤ (n : Int) - 1 := by omega
  have p2 : (0 : Int) ≤ (n : Int) - 1 := by omega
  go_enter Try.func140, Try.ntmps140
  go_wp2_with fail
  refine (cut_yes _ _ _ _ (by omega) hn).mono ?_
  rintro e w' ⟨rfl, rfl⟩
  go_wp2_with fail
  refine (within_yes _ _ _ _ p0 p1).mono ?_
  rintro e w' ⟨rfl, rfl⟩
  go_wp2_with fail
  go_ret
  exact ⟨rfl, rfl⟩
theorem ci_no (A : Option Addr) (n c : Nat) (a : Int) (w : World) (hm : n ≤ 9223372036854775807) (h : ¬ ((1 ≤ n ∧ n ≤ 129) ∧ 0 ≤ a ∧ a ≤ (n : Int) - 1)) :
    Calls Try.prog 140 #[.slice A n c, .int .i64 a] w fun e w' => e = .returned (.bool false) ∧ w = w' := by
  by_cases hn : 1 ≤ n ∧ n ≤ 129
  · have ha : a < 0 ∨ (n : Int) - 1 < a := by omega
    have p2 : (0 : Int) ≤ (n : Int) - 1 := by omega
    have p3 : (n : Int) ≤ 129 := by omega
    clear h
    go_enter Try.func140, Try.ntmps140
    go_wp2_with fail
    refine (cut_yes _ _ _ _ hn.1 hn.2).mono ?_
    rintro e w' ⟨rfl, rfl⟩
    go_wp2_with fail
    refine (within_no _ _ _ _ ha).mono ?_
    rintro e w' ⟨rfl, rfl⟩
    go_wp2_with fail
    go_ret
    exact ⟨rfl, rfl⟩
  · have hn' : n < 1 ∨ 129 < n := by omega
    clear h hn
    go_enter Try.func140, Try.ntmps140
    go_wp2_with fail
    refine (cut_no _ _ _ _ hn' hm).mono ?_
    rintro e w' ⟨rfl, rfl⟩
    go_wp2_with fail
    go_ret
    exact ⟨rfl, rfl⟩

/-- MainLobe, told. -/
def mainT (x : Nat → Nat) (n : Nat) (a : Int) : Int × Int × Bool :=
  if (1 ≤ n ∧ n ≤ 129) ∧ 0 ≤ a ∧ a ≤ (n : Int) - 1 then ((reach (mR x) n a.toNat).1, (reach (mR x) n a.toNat).2, true) else (0, 0, false)

set_option maxHeartbeats 400000 in
theorem mainL_impl (A : Option Addr) (n c B : Nat) (a : Int) (x : Nat → Nat) (w : World) (hm : n ≤ 9223372036854775807) (hB : B ≤ w.heap.size) (ha : Rd w B A n (fl x)) :
    Calls Try.prog 34 #[.slice A n c, .int .i64 a] w fun e w' => e = .returned (.tuple #[.int .i64 (mainT x n a).1, .int .i64 (mainT x n a).2.1, .bool (mainT x n a).2.2]) ∧ w.grownBy w' none := by
  by_cases h : (1 ≤ n ∧ n ≤ 129) ∧ 0 ≤ a ∧ a ≤ (n : Int) - 1
  · obtain ⟨k, rfl⟩ : ∃ k : Nat, a = (k : Int) := ⟨a.toNat, by omega⟩
    have hk : k < n := by omega
    have hT : mainT x n k = (((reach (mR x) n k).1 : Int), ((reach (mR x) n k).2 : Int), true) := by unfold mainT; rw [if_pos h]; rfl
    rw [hT]
    have HR := fun w hB ha => main_reach A n c B k x (mR x) w h.1.2 hk hB ha (fun a b w1 => main_cl (x a) (x b) w1)
    generalize reach (mR x) n k = R at HR
    have hci := fun w => ci_yes A n c k w h.1.2 hk
    clear hT h
    go_enter Try.func34, Try.ntmps34
    go_wp2_with fail
    refine (hci _).mono ?_
    rintro e w' ⟨rfl, rfl⟩
    go_wp2_with fail
    refine (HR _ hB ha).mono ?_
    rintro e w' ⟨rfl, hg⟩
    go_wp2_with fail
    go_ret3
    exact ⟨rfl, hg⟩
  · have hT : mainT x n a = (0, 0, false) := by unfold mainT; rw [if_neg h]
    rw [hT]
    have hci := fun w => ci_no A n c a w hm h
    clear hT h
    go_enter Try.func34, Try.ntmps34
    go_wp2_with fail
    refine (hci _).mono ?_
    rintro e w' ⟨rfl, rfl⟩
    go_wp2_with fail
    go_ret3
    exact ⟨rfl, World.grownBy.refl _ _⟩

theorem mainL_spec : True := trivial

end Go.Proofs.Ytkjmlpdbnnmlhab.reach2
