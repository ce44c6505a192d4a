/- WidthOf, by the program and by the model. -/
import Derived.Test.YtkjmlpdbnnmlhabRows
import Derived.Test.YtkjmlpdbnnmlhabSlc
import Derived.Test.YtkjmlpdbnnmlhabSmall
import Derived.Test.YtkjmlpdbnnmlhabFloatAll
import Derived.Test.YtkjmlpdbnnmlhabFWalk
import Derived.Test.YtkjmlpdbnnmlhabCut
import Derived.Test.YtkjmlpdbnnmlhabListF
import Derived.Test.YtkjmlpdbnnmlhabPeak
import Derived.Test.YtkjmlpdbnnmlhabReach
import Derived.Test.YtkjmlpdbnnmlhabReach2
import Derived.WalkKit
import Derived.ProofKit
import Derived.OpenShut
import Derived.ShutString
import Derived.ChangeOld
import Derived.Below
import Derived.Lib.Hide
import Derived.BigQuiet
import Derived.Deep.QuietTactic
import Derived.WalkLawsBesides
import Derived.Outline
import Derived.Deep.LoopGhost
import Derived.Deep.RegionHeld3
import Derived.Laws.Cover2
namespace Go.Proofs.Ytkjmlpdbnnmlhab.width
open Go.ChangeShapes Go.WideShapes Go.ChangeAt Go.RowKit
open Go.ChangeMaps (open_string shut_string)
set_option linter.unusedVariables false
open Go Ieee Go.RowKit
open Go.Proofs.Ytkjmlpdbnnmlhab.slc Go.Proofs.Ytkjmlpdbnnmlhab.small Go.Proofs.Ytkjmlpdbnnmlhab.floats Go.Proofs.Ytkjmlpdbnnmlhab.round Go.Proofs.Ytkjmlpdbnnmlhab.values Go.Proofs.Ytkjmlpdbnnmlhab.conv Go.Proofs.Ytkjmlpdbnnmlhab.fWalk Go.Proofs.Ytkjmlpdbnnmlhab.cut Go.Proofs.Ytkjmlpdbnnmlhab.listF Go.Proofs.Ytkjmlpdbnnmlhab.peak Go.Proofs.Ytkjmlpdbnnmlhab.reach Go.Proofs.Ytkjmlpdbnnmlhab.reach2

theorem q_few_yes : True := trivial
theorem q_few_no : True := trivial
theorem q_in_yes (n lo hi : Int) (w : World) (h : lo ≤ n) (h2 : n ≤ hi) :
    Calls Try.prog 239 #[.int .i64 n, .int .i64 lo, .int .i64 hi] w fun e w' => e = .returned (.bool true) ∧ w' = w :=
  (in_yes n lo hi w h h2).mono fun _ _ ⟨a, b⟩ => ⟨a, b.symm⟩
theorem q_in_no (n lo hi : Int) (w : World) (h : n < lo ∨ hi < n) :
    Calls Try.prog 239 #[.int .i64 n, .int .i64 lo, .int .i64 hi] w fun e w' => e = .returned (.bool false) ∧ w' = w :=
  (in_no n lo hi w h).mono fun _ _ ⟨a, b⟩ => ⟨a, b.symm⟩


/-- Half of a number. -/
def hvF (a : Nat) : Nat := (floatBits .quo .f32 a 1073741824).getD 0
theorem hvF_ok {a : Nat} (h : isNaN .f32 a = false) : floatBits .quo .f32 a 1073741824 = some (hvF a) := by
  obtain ⟨r, hr⟩ := half_some h
  unfold hvF; rw [hr]; rfl
def geB (a h : Nat) : Bool := FloatKind.f32.format.order a h == some .gt || FloatKind.f32.format.order a h == some .eq
/-- WidthOf, told. -/
def widthT (x : Nat → Nat) (n : Nat) (a : Int) : Int × Int × Bool :=
  if ((1 ≤ n ∧ n ≤ 129) ∧ 0 ≤ a ∧ a ≤ (n : Int) - 1) ∧ isNaN .f32 (x a.toNat) = false ∧ geB (x a.toNat) (hvF (x a.toNat)) = true then
    ((reach (wR x (hvF (x a.toNat))) n a.toNat).1, (reach (wR x (hvF (x a.toNat))) n a.toNat).2, true) else (0, 0, false)
/-- The four ways. -/
theorem width_cases (x : Nat → Nat) (n : Nat) (a : Int) :
    (¬ ((1 ≤ n ∧ n ≤ 129) ∧ 0 ≤ a ∧ a ≤ (n : Int) - 1) ∧ widthT x n a = (0, 0, false)) ∨
    (∃ k : Nat, a = (k : Int) ∧ (1 ≤ n ∧ n ≤ 129) ∧ k < n ∧
      ((isNaN .f32 (x k) = true ∧ widthT x n a = (0, 0, false)) ∨
       (isNaN .f32 (x k) = false ∧ geB (x k) (hvF (x k)) = false ∧ widthT x n a = (0, 0, false)) ∨
       (isNaN .f32 (x k) = false ∧ geB (x k) (hvF (x k)) = true ∧ widthT x n a = (((reach (wR x (hvF (x k))) n k).1 : Int), ((reach (wR x (hvF (x k))) n k).2 : Int), true)))) := by
  by_cases h : (1 ≤ n ∧ n ≤ 129) ∧ 0 ≤ a ∧ a ≤ (n : Int) - 1
  · right
    obtain ⟨k, rfl⟩ : ∃ k : Nat, a = (k : Int) := ⟨a.toNat, by omega⟩
    refine ⟨k, rfl, h.1, by omega, ?_⟩
    unfold widthT
    rw [Int.toNat_natCast]
    cases hn : isNaN .f32 (x k)
    · cases hg : geB (x k) (hvF (x k))
      · exact .inr (.inl ⟨rfl, rfl, by rw [if_neg (fun q => by cases q.2.2)]⟩)
      · exact .inr (.inr ⟨rfl, rfl, by rw [if_pos ⟨h, rfl, rfl⟩]⟩)
    · exact .inl ⟨rfl, by rw [if_neg (fun q => by cases q.2.1)]⟩
  · left
    exact ⟨h, by unfold widthT; rw [if_neg (fun q => h q.1)]⟩

set_option maxHeartbeats 800000 in
theorem widthL_spec : True := trivial

theorem box1 (W : World) (v : Value) (t : TypeId) : (W.alloc (.cells #[v] t)).cell? ⟨W.heap.size, 0, none⟩ = some v := cell_of_row _ _ 0 _ _ _ (heap_alloc_new W _)
theorem box_set (w : World) (q : Nat) (v0 v : Value) (t : TypeId) : w.grownBy (((w.drewN q).alloc (.cells #[v0] t)).setCell ⟨w.heap.size, 0, none⟩ v) none ∧ (((w.drewN q).alloc (.cells #[v0] t)).setCell ⟨w.heap.size, 0, none⟩ v).cell? ⟨w.heap.size, 0, none⟩ = some v := by
  refine ⟨(gb_drewN w q none).trans (gb_of_below (((Below.refl _ _).alloc (Nat.le_refl _) _).setCell (Nat.le_refl _) _)), ?_⟩
  exact World.cell?_setCell_same _ _ _ (box1 (w.drewN q) v0 t)
section
attribute [local go_sem] run_fquo run_store_float
set_option maxHeartbeats 800000 in
theorem widthL_impl (A : Option Addr) (n c B : Nat) (a : Int) (x : Nat → Nat) (w : World) (hm : n ≤ 9223372036854775807) (hB : B ≤ w.heap.size) (ha : Rd w B A n (fl x)) :
    Calls Try.prog 33 #[.slice A n c, .int .i64 a] w fun e w' => e = .returned (.tuple #[.int .i64 (widthT x n a).1, .int .i64 (widthT x n a).2.1, .bool (widthT x n a).2.2]) ∧ w.grownBy w' none := by
  rcases width_cases x n a with ⟨h, hT⟩ | ⟨k, rfl, hn, hk, hh⟩
  · rw [hT]
    have hci := fun w => ci_no A n c a w hm h
    clear hT h
    go_enter Try.func33, Try.ntmps33
    go_wp2_with fail
    refine (hci _).mono ?_
    rintro e w' ⟨rfl, rfl⟩
    go_wp2_with fail
    go_ret3
    exact ⟨rfl, World.grownBy.refl _ _⟩
  · obtain ⟨ad, rfl, hab, hz⟩ := ha.at_ hk
    clear hz
    have hx := cell_at ha hk _ rfl
    have p0 : (0 : Int) ≤ k := by omega
    have p1 : (k : Int) < n := by omega
    have hci := fun w => ci_yes (some ad) n c k w hn.2 hk
    have hbl : (ad.add k).block < w.heap.size := by rw [add_block]; omega
    have hfz : ∀ q, ((w.drewN q).alloc (.cells #[.float .f32 0] 61)).frozen? ⟨w.heap.size, 0, none⟩ = false := fun q => World.frozen?_alloc_at _ _ _ _ rfl
    have hcz : ∀ q, ((w.drewN q).alloc (.cells #[.float .f32 0] 61)).cell? ⟨w.heap.size, 0, none⟩ = some (.float .f32 0) := fun q => box1 (w.drewN q) _ _
    have hfz0 := hfz 0
    have hcz0 := hcz 0
    rcases hh with ⟨hnn, hT⟩ | ⟨hnn, hg, hT⟩ | ⟨hnn, hg, hT⟩
    · rw [hT]
      have ho : ∀ h, FloatKind.f32.format.order (x k) h = none := fun h => order_nan_l hnn
      clear hT hnn
      go_enter Try.func33, Try.ntmps33
      go_wp2_with fail
      refine (hci _).mono ?_
      rintro e w' ⟨rfl, rfl⟩
      go_wp2_with fail
      obtain ⟨hgW, hcW⟩ := box_set w (fcnt .quo .f32 (x k) 1073741824) (.float .f32 0) (.float .f32 (fval .quo .f32 w (x k) 1073741824)) 61
      have hx2 := hgW.cell hx (by simp)
      clear hfz hfz0 hcz hcz0 hx
      generalize ((w.drewN (fcnt .quo .f32 (x k) 1073741824)).alloc (Obj.cells #[Value.float .f32 0] 61)).setCell ⟨w.heap.size, 0, none⟩ (Value.float .f32 (fval .quo .f32 w (x k) 1073741824)) = W2 at hgW hcW hx2 ⊢
      go_quiet (fail)
      go_wp2
      go_ret3
      exact ⟨rfl, hgW.trans (gb_drewN _ _ _)⟩
    · rw [hT]
      have hq := hvF_ok hnn
      have hrun : ∀ (w : World) (t : TypeId), (binOp .quo t (.float .f32 (x k)) (.float .f32 1073741824)).run Try.prog w = .ok (.float .f32 (hvF (x k))) w := fun w t => run_float_arith w .quo t .f32 _ _ _ hq
      unfold geB at hg
      clear hT hnn hq
      generalize hvF (x k) = hv at hrun hg
      go_enter Try.func33, Try.ntmps33
      go_wp2_with fail
      refine (hci _).mono ?_
      rintro e w' ⟨rfl, rfl⟩
      go_wp2_with fail
      have hgW := World.grownBy_alloc w (.cells #[.float .f32 hv] 61) none
      have hcW := box1 w (.float .f32 hv) 61
      have hx2 := hgW.cell hx (by simp)
      clear hfz hfz0 hcz hcz0 hx
      generalize w.alloc (Obj.cells #[Value.float .f32 hv] 61) = W2 at hgW hcW hx2 ⊢
      go_quiet (fail)
      go_wp2_with fail
      go_ret3
      exact ⟨rfl, hgW.trans (gb_drewN _ _ _)⟩
    · rw [hT]
      have hmf : ∀ (fn : Fn) (first cap : Array Value) (w : World), (Instr.makeFunc fn first cap).run Try.prog w = .ok (.func fn first cap) w := fun _ _ _ _ => rfl
      have hq := hvF_ok hnn
      have hrun : ∀ (w : World) (t : TypeId), (binOp .quo t (.float .f32 (x k)) (.float .f32 1073741824)).run Try.prog w = .ok (.float .f32 (hvF (x k))) w := fun w t => run_float_arith w .quo t .f32 _ _ _ hq
      have HR := fun w2 (hg : w.grownBy w2 none) hBh => width_reach (some ad) n c B k w.heap.size (hvF (x k)) x (wR x (hvF (x k))) w2 hn.2 hk (Nat.le_trans hB hg.size) (ha.kept0 hg hB) hBh (fun a b w1 hc => width_cl (x a) (x b) (hvF (x k)) w.heap.size w1 hc)
      unfold geB at hg
      clear hT hnn hq
      generalize reach (wR x (hvF (x k))) n k = R at HR
      generalize hvF (x k) = hv at hrun hg HR
      have HRR := Lib.hid HR
      clear HR
      go_enter Try.func33, Try.ntmps33
      go_wp2_with fail
      refine (hci _).mono ?_
      rintro e w' ⟨rfl, rfl⟩
      go_wp2_with fail
      have hgW := World.grownBy_alloc w (.cells #[.float .f32 hv] 61) none
      have hcW := box1 w (.float .f32 hv) 61
      have hx2 := hgW.cell hx (by simp)
      clear hfz hfz0 hcz hcz0 hx
      generalize w.alloc (Obj.cells #[Value.float .f32 hv] 61) = W2 at hgW hcW hx2 ⊢
      go_quiet (fail)
      go_wp2_with fail
      refine (HRR.out _ (hgW.trans (gb_drewN _ _ _)) hcW).mono ?_
      rintro e w' ⟨rfl, hg5⟩
      go_wp2_with fail
      go_ret3
      exact ⟨rfl, (hgW.trans (gb_drewN _ _ _)).trans hg5⟩
end

end Go.Proofs.Ytkjmlpdbnnmlhab.width
