/- The greatest number outside of a lobe is that of the two parts laid together. -/
/- The greatest number outside of a lobe, by the program. -/
import Derived.Test.YtkjmlpdbnnmlhabFloatAll
import Derived.Test.YtkjmlpdbnnmlhabCut
import Derived.Test.YtkjmlpdbnnmlhabRows
import Derived.Test.YtkjmlpdbnnmlhabSlc
import Derived.Test.YtkjmlpdbnnmlhabSmall
import Derived.Test.YtkjmlpdbnnmlhabFWalk
import Derived.Test.YtkjmlpdbnnmlhabListF
import Derived.Test.YtkjmlpdbnnmlhabPeak
import Derived.Test.YtkjmlpdbnnmlhabReach
import Derived.Test.YtkjmlpdbnnmlhabReach2
import Derived.Test.YtkjmlpdbnnmlhabConcatF
import Derived.WalkKit
import Derived.ProofKit
import Derived.OpenShut
import Derived.ShutString
import Derived.ChangeOld
import Derived.Below
import Derived.Lib.Hide
import Derived.BigQuiet
import Derived.Deep.QuietTactic
import Derived.WalkLawsBesides
import Derived.Outline
import Derived.StillTailTactics
import Derived.Deep.LoopGhost
import Derived.Deep.RegionHeld3
namespace Go.Proofs.Ytkjmlpdbnnmlhab.sideNum
set_option linter.unusedVariables false
open Go Ieee
open Go.Proofs.Ytkjmlpdbnnmlhab.floats Go.Proofs.Ytkjmlpdbnnmlhab.cut

/-- The index of the greatest of the first k numbers outside of lo to hi; -1: none. -/
def sdI (x : Nat → Nat) (lo hi : Nat) : Nat → Int
  | 0 => -1
  | k + 1 => if (k < lo ∨ hi < k) ∧ FloatKind.f32.format.order (x k) (x k) = some .eq ∧ (sdI x lo hi k < 0 ∨ FloatKind.f32.format.order (x k) (x (sdI x lo hi k).toNat) = some .gt) then (k : Int) else sdI x lo hi k
theorem sdI_succ (x : Nat → Nat) (lo hi k : Nat) : sdI x lo hi (k + 1) = if (k < lo ∨ hi < k) ∧ FloatKind.f32.format.order (x k) (x k) = some .eq ∧ (sdI x lo hi k < 0 ∨ FloatKind.f32.format.order (x k) (x (sdI x lo hi k).toNat) = some .gt) then (k : Int) else sdI x lo hi k := rfl
theorem sdI_bd (x : Nat → Nat) (lo hi k : Nat) : -1 ≤ sdI x lo hi k ∧ sdI x lo hi k < k := by
  induction k with
  | zero => unfold sdI; omega
  | succ k ih => rw [sdI_succ]; split <;> omega

/-- The parts outside of lo to hi, laid together. -/
def sdy (x : Nat → Nat) (lo hi : Nat) (j : Nat) : Nat := if j < lo then x j else x (j + (hi + 1 - lo))
def sdc (lo hi k : Nat) : Nat := if k ≤ lo then k else if k ≤ hi + 1 then lo else k - (hi + 1 - lo)
def Rel (x y : Nat → Nat) (s p : Int) : Prop := (s < 0 ∧ p < 0) ∨ (0 ≤ s ∧ 0 ≤ p ∧ y p.toNat = x s.toNat)
theorem sd_rel (x : Nat → Nat) (lo hi : Nat) (h : lo ≤ hi) (k : Nat) : Rel x (sdy x lo hi) (sdI x lo hi k) (pkI (sdy x lo hi) (sdc lo hi k)) := by
  induction k with
  | zero => left; simp [sdI, sdc, pkI]
  | succ k ih =>
    rw [sdI_succ]
    by_cases ho : k < lo ∨ hi < k
    · have hc : sdc lo hi (k + 1) = sdc lo hi k + 1 := by unfold sdc; split <;> split <;> (try split) <;> (try split) <;> omega
      have hy : sdy x lo hi (sdc lo hi k) = x k := by
        unfold sdy sdc
        rcases ho with ho | ho
        · rw [if_pos (show k ≤ lo by omega), if_pos ho]
        · rw [if_neg (show ¬ k ≤ lo by omega)]
          by_cases h2 : k ≤ hi + 1
          · rw [if_pos h2, if_neg (Nat.lt_irrefl _)]
            congr 1; omega
          · rw [if_neg h2, if_neg (show ¬ k - (hi + 1 - lo) < lo by omega)]
            congr 1; omega
      rw [hc, pkI_succ, hy]
      by_cases hq : FloatKind.f32.format.order (x k) (x k) = some .eq
      · rcases ih with ⟨a, b⟩ | ⟨a, b, c⟩
        · rw [if_pos ⟨ho, hq, .inl a⟩, if_pos ⟨hq, .inl b⟩]
          right
          refine ⟨by omega, by omega, ?_⟩
          simpa using hy
        · rw [c]
          by_cases hg : FloatKind.f32.format.order (x k) (x (sdI x lo hi k).toNat) = some .gt
          · rw [if_pos ⟨ho, hq, .inr hg⟩, if_pos ⟨hq, .inr hg⟩]
            right
            refine ⟨by omega, by omega, ?_⟩
            simpa using hy
          · rw [if_neg (by rintro ⟨_, _, h | h⟩; omega; exact hg h), if_neg (by rintro ⟨_, h | h⟩; omega; exact hg h)]
            exact .inr ⟨a, b, c⟩
      · rw [if_neg (fun h => hq h.2.1), if_neg (fun h => hq h.1)]
        exact ih
    · have hc : sdc lo hi (k + 1) = sdc lo hi k := by unfold sdc; split <;> split <;> (try split) <;> (try split) <;> omega
      rw [hc, if_neg (fun h => ho h.1)]
      exact ih
/-- What is returned. -/
def sdR (x : Nat → Nat) (lo hi n : Nat) : Nat × Bool := if 0 ≤ sdI x lo hi n then (x (sdI x lo hi n).toNat, true) else (0, false)
theorem sd_pk (x : Nat → Nat) (lo hi n : Nat) (h : lo ≤ hi) (hn : hi < n) (hn2 : n ≤ 129) :
    (0 ≤ sdI x lo hi n ∧ ∃ q : Nat, q < n - (hi + 1 - lo) ∧ pkR (sdy x lo hi) (n - (hi + 1 - lo)) = ((q : Int), true) ∧ sdy x lo hi q = x (sdI x lo hi n).toNat) ∨ (sdI x lo hi n < 0 ∧ pkR (sdy x lo hi) (n - (hi + 1 - lo)) = (0, false)) := by
  have hr := sd_rel x lo hi h n
  have hc : sdc lo hi n = n - (hi + 1 - lo) := by unfold sdc; rw [if_neg (by omega)]; split <;> omega
  rw [hc] at hr
  have hb := pkI_bd (sdy x lo hi) (n - (hi + 1 - lo))
  unfold pkR
  rcases hr with ⟨a, b⟩ | ⟨a, b, c⟩
  · right
    exact ⟨a, by rw [if_neg (by rintro ⟨_, h⟩; omega)]⟩
  · left
    refine ⟨a, (pkI (sdy x lo hi) (n - (hi + 1 - lo))).toNat, by omega, ?_, c⟩
    rw [if_pos ⟨⟨by omega, by omega⟩, b⟩]
    congr 1
    omega

end Go.Proofs.Ytkjmlpdbnnmlhab.sideNum

namespace Go.Proofs.Ytkjmlpdbnnmlhab.side2
open Go.ChangeShapes Go.WideShapes Go.ChangeAt Go.RowKit
open Go.ChangeMaps (open_string shut_string)
set_option linter.unusedVariables false
open Go Ieee Go.RowKit
open Go.Proofs.Ytkjmlpdbnnmlhab.slc Go.Proofs.Ytkjmlpdbnnmlhab.small Go.Proofs.Ytkjmlpdbnnmlhab.floats Go.Proofs.Ytkjmlpdbnnmlhab.cut Go.Proofs.Ytkjmlpdbnnmlhab.sideNum Go.Proofs.Ytkjmlpdbnnmlhab.listF Go.Proofs.Ytkjmlpdbnnmlhab.peak Go.Proofs.Ytkjmlpdbnnmlhab.reach Go.Proofs.Ytkjmlpdbnnmlhab.reach2 Go.Proofs.Ytkjmlpdbnnmlhab.concatF

theorem fl_one (x : Nat → Nat) (n : Nat) : ∀ u ∈ lst (fl x) n, u.oneCell' = true := by
  intro u hu
  obtain ⟨j, _, rfl⟩ := List.mem_map.1 hu
  rfl
theorem sd_cat (x : Nat → Nat) (lo hi n : Nat) (h : lo ≤ hi) : lst (cat (fl x) (fl fun j => x (j + (hi + 1))) lo) (lo + (n - (hi + 1))) = lst (fl (sdy x lo hi)) (lo + (n - (hi + 1))) :=
  lst_congr fun j hj => by
    unfold cat fl sdy
    split
    · rfl
    · show Value.float .f32 (x (j - lo + (hi + 1))) = .float .f32 (x (j + (hi + 1 - lo)))
      rw [show j - lo + (hi + 1) = j + (hi + 1 - lo) by omega]

theorem rd_left {w : World} {B n k : Nat} {A : Option Addr} {f : Nat → Value} (h : Rd w B A n f) (hk : k ≤ n) : Rd w B A k f := fun h0 => by
  obtain ⟨ad, e, hb, hc⟩ := h (by omega)
  exact ⟨ad, e, hb, fun j hj => hc j (by omega)⟩
theorem rd_right {w : World} {B n k : Nat} {ad : Addr} {x : Nat → Nat} (h : Rd w B (some ad) n (fl x)) (hk : 0 < k) : Rd w B (some ⟨ad.block, ad.off + k, none⟩) (n - k) (fl fun j => x (j + k)) := fun h0 => by
  obtain ⟨ad', e, hb, hc⟩ := h (by omega)
  injection e with e; subst e
  refine ⟨_, rfl, hb, fun j hj => ?_⟩
  have e1 : (⟨ad.block, ad.off + k, none⟩ : Addr).add j = ad.add (j + k) := by
    rw [slc.add_plain]
    unfold Addr.add
    rw [if_neg (by omega), Nat.add_assoc, Nat.add_comm k j]
  rw [e1, hc (j + k) (by omega)]
  rfl

set_option maxHeartbeats 1600000 in
set_option maxRecDepth 100000 in
theorem side_impl (ad : Addr) (n c B a lo hi : Nat) (x : Nat → Nat) (w : World) (hn : n ≤ 129) (hk : a < n) (hc1 : n ≤ c) (hc2 : c ≤ 9223372036854775807) (hB : B ≤ w.heap.size) (ha : Rd w B (some ad) n (fl x))
    (hR : mainT x n a = ((lo : Int), (hi : Int), true)) (h1 : lo ≤ a) (h2 : a ≤ hi) (h3 : hi < n) :
    Calls Try.prog 35 #[.slice (some ad) n c, .int .i64 a] w fun e w' => e = .returned (.tuple #[.float .f32 (sdR x lo hi n).1, .bool (sdR x lo hi n).2]) ∧ w.grownBy w' none := by
  have HM := fun w hB ha => mainL_impl (some ad) n c B a x w (by omega) hB ha
  rw [hR] at HM
  have HMM := Lib.hid HM
  clear HM hR
  have p1 : (lo : Int) ≤ c := by omega
  have p2 : (hi : Int) + 1 ≤ n := by omega
  have p3 : (n : Int) ≤ c := by omega
  go_enter Try.func35, Try.ntmps35
  go_wp2_with fail
  refine (HMM.out _ hB ha).mono ?_
  rintro e w1 ⟨rfl, hg1⟩
  go_wp2_with fail
  have hg1d : w.grownBy w1.drew none := ⟨hg1.os, hg1.tape, hg1.output, hg1.size, hg1.block⟩
  have hw : IntKind.i64.wrap ((hi : Int) + 1) = (hi : Int) + 1 := IntWalk.i64_in _ (by omega)
  have hw0 : (0 : Int) ≤ (hi : Int) + 1 := by omega
  have hwn : ((hi : Int) + 1).toNat = hi + 1 := by omega
  have p4 : (hi : Int) + 1 ≤ c := by omega
  go_still_tail 7, (by kernel_rfl)
  change wpList _ _ _ _ _ w1.drew
  generalize w1.drew = w2 at hg1d ⊢
  have HA := Lib.hid (fun (w' : World) (h : w.grownBy w' none) => rd_left (ha.kept0 h hB) (show lo ≤ n by omega))
  have HB := Lib.hid (fun (w' : World) (h : w.grownBy w' none) => rd_right (k := hi + 1) (ha.kept0 h hB) (by omega))
  have hlen : lo + (n - (hi + 1)) = n - (hi + 1 - lo) := by omega
  have HSC := Lib.hid (sd_cat x lo hi n (by omega))
  have HSP := Lib.hid (sd_pk x lo hi n (by omega) h3 hn)
  have hsz := hg1d.size
  go_wp2_with fail
  all_goals
    have gal : ∀ v u : Value, w.grownBy (w2.alloc (.cells #[v, u] 58)) none := fun v u => hg1d.trans (World.grownBy_alloc _ _ _)
    have hcc : ∀ v u : Value, (w2.alloc (.cells #[v, u] 58)).cell? ⟨w2.heap.size, 0, none⟩ = some v ∧ (w2.alloc (.cells #[v, u] 58)).cell? ⟨w2.heap.size, 1, none⟩ = some u := fun v u => boxed2 (World.grownBy.refl _ _)
    first
      | refine (concat2 ad ⟨ad.block, ad.off + (hi + 1), none⟩ lo (n - (hi + 1)) _ _ w2.heap.size B (fl x) (fl fun j => x (j + (hi + 1))) _ (by omega) (fl_one _ _) (fl_one _ _) (hcc _ _).1 (hcc _ _).2 (Nat.le_trans hB (gal _ _).size) (HA.out _ (gal _ _)) (HB.out _ (gal _ _))).mono ?_
      | refine (concat2 ad ad lo (n - (hi + 1)) _ _ w2.heap.size B (fl x) (fl fun j => x (j + (hi + 1))) _ (by omega) (fl_one _ _) (fl_one _ _) (hcc _ _).1 (hcc _ _).2 (Nat.le_trans hB (gal _ _).size) (HA.out _ (gal _ _)) (fun h0 => absurd h0 (by omega))).mono ?_
    rintro e w3 ⟨A3, c3, rfl, ho3, hg3⟩
    rw [HSC.out] at ho3
    have R3 := Rd.of_lst ho3 (Nat.mul_one _).symm
    have g3 := (gal _ _).trans hg3
    rw [hlen] at R3 ⊢
    have hm : n - (hi + 1 - lo) ≤ 9223372036854775807 := by omega
    have hP := fun w hB ha => impl_p A3 (n - (hi + 1 - lo)) c3 w3.heap.size (sdy x lo hi) w hm hB ha
    rcases HSP.out with ⟨q0, q, hq, hp, hv⟩ | ⟨q0, hp⟩
    · rw [hp] at hP
      have hS : sdR x lo hi n = (sdy x lo hi q, true) := by unfold sdR; rw [if_pos q0, hv]
      have HSS := Lib.hid hS
      have HPP := Lib.hid hP
      clear hP hp hS hv q0 gal hcc ho3
      have hq' : (q : Int) < ((n - (hi + 1 - lo) : Nat) : Int) := by omega
      have hq0 : (0 : Int) ≤ q := by omega
      generalize n - (hi + 1 - lo) = M at *
      go_wp2_with fail
      refine (HPP.out _ (Nat.le_refl _) R3).mono ?_
      rintro e w4 ⟨rfl, hg4⟩
      obtain ⟨bd, rfl, _, hcell⟩ := (R3.kept0 hg4 (Nat.le_refl _)).at_ hq
      have hcell' : w4.cell? (bd.add q) = some (.float .f32 (sdy x lo hi q)) := hcell
      clear hcell
      generalize sdy x lo hi q = Y at *
      go_wp2_with fail
      go_ret2
      exact ⟨by rw [HSS.out]; rfl, g3.trans hg4⟩
    · rw [hp] at hP
      have hS : sdR x lo hi n = (0, false) := by unfold sdR; rw [if_neg (by omega)]
      have HSS := Lib.hid hS
      have HPP := Lib.hid hP
      clear hP hp hS q0 gal hcc ho3
      generalize n - (hi + 1 - lo) = M at *
      go_wp2_with fail
      refine (HPP.out _ (Nat.le_refl _) R3).mono ?_
      rintro e w4 ⟨rfl, hg4⟩
      go_wp2_with fail
      go_ret2
      exact ⟨by rw [HSS.out]; rfl, g3.trans hg4⟩

end Go.Proofs.Ytkjmlpdbnnmlhab.side2
