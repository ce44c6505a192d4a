/- Lists of 32-bit numbers in a law: opened, copied, compared. -/
import Derived.Test.YtkjmlpdbnnmlhabRows
import Derived.Test.YtkjmlpdbnnmlhabSlc
import Derived.Test.YtkjmlpdbnnmlhabFloats
import Derived.Test.YtkjmlpdbnnmlhabRound
import Derived.Test.YtkjmlpdbnnmlhabValues
import Derived.Test.YtkjmlpdbnnmlhabConv
import Derived.Test.YtkjmlpdbnnmlhabFWalk
import Derived.WalkKit
import Derived.ProofKit
import Derived.OpenShut
import Derived.ShutString
import Derived.ChangeOld
import Derived.Below
import Derived.Lib.Hide
import Derived.BigQuiet
import Derived.Deep.QuietTactic
import Derived.WalkLawsBesides
import Derived.Outline
import Derived.Deep.QuietTactic
import Derived.BigQuiet
import Derived.Deep.LoopGhost
import Derived.Deep.RegionHeld3
import Derived.ChangeSlices
import Derived.Deep.Slices
namespace Go.Proofs.Ytkjmlpdbnnmlhab.listF
open Go.ChangeShapes Go.WideShapes Go.ChangeAt Go.RowKit
open Go.ChangeMaps (open_string shut_string)
set_option linter.unusedVariables false
open Go Ieee Go.RowKit Go.ChangeShapes Go.WideShapes Go.Deep
open Go.Proofs.Ytkjmlpdbnnmlhab.slc Go.Proofs.Ytkjmlpdbnnmlhab.floats Go.Proofs.Ytkjmlpdbnnmlhab.round Go.Proofs.Ytkjmlpdbnnmlhab.values Go.Proofs.Ytkjmlpdbnnmlhab.conv Go.Proofs.Ytkjmlpdbnnmlhab.fWalk

theorem info32 : (Try.prog.info? 61).map (fun i => (i.zero, i.size, i.bytes)) = some (some (.float .f32 0), 1, 4) := by kernel_rfl
/-- The cells of numbers. -/
def fl (x : Nat → Nat) (j : Nat) : Value := .float .f32 (x j)
theorem cv3264 (w : World) (b : Nat) : (convert 61 39 (.float .f32 b)).run Try.prog w = .ok (.float .f64 (cval .f32 w b .f64)) (w.drewN (ccnt .f32 b .f64)) :=
  run_convff w _ _ .f32 .f64 b (by rw [Try.underlying61]; rfl) Try.underlying39

section
variable {H : Type} {enc : TypeId × Value → H} {P : Program} {w : World} {base : Nat} {spare : Nat → Bool} {held : Bool}
theorem trod_float {k : FloatKind} {fuel : Nat} {t : TypeId} {cs : List Value} {x : DataW H × List MemPlace} (ht : P.underlying t = some (.float k)) (h : DataW.trod enc P w base spare held fuel t cs = some x) : ∃ n, cs = [.float k n] ∧ x = (.lit (.float k n), []) ∧ (Lit.float k n).wf = true := by
  cases fuel with
  | zero => simp [DataW.trod] at h
  | succ n =>
    unfold DataW.trod at h
    rw [ht] at h
    split at h <;> simp_all
theorem opened_floats {t e : TypeId} {A : Option Addr} {len cap : Nat} {d : DataW H} {p : List MemPlace} (ht : P.underlying t = some (.slice e)) (he : P.underlying e = some (.float .f32)) (hc : P.cellsOf e = 1)
    (h : DataW.Trod enc P w base spare held t (.slice A len cap) d p) :
    ∃ x : Nat → Nat, len ≤ cap ∧ cap ≤ maxLen ∧ (∀ j, j < len → (Lit.float .f32 (x j)).wf = true) ∧ Rd w w.heap.size A len (fl x) := by
  obtain ⟨fuel, hf⟩ := h
  rcases open_slice1 ht hc hf with ⟨hcs, _⟩ | ⟨a, len', cap', m, n, V, D, Pl, hcs, _, hl, hm, hmm, _, hx⟩
  · simp only [Value.cells, List.cons.injEq, Value.slice.injEq, and_true] at hcs
    obtain ⟨rfl, rfl, rfl⟩ := hcs
    exact ⟨fun _ => 0, Nat.le_refl _, Nat.zero_le _, fun j hj => absurd hj (by omega), Rd.nil⟩
  · simp only [Value.cells, List.cons.injEq, Value.slice.injEq, and_true] at hcs
    obtain ⟨rfl, rfl, rfl⟩ := hcs
    have hle : len ≤ m := by rw [hmm]; split <;> omega
    have hall : ∀ i, i < len → ∃ q : Nat, V i = .float .f32 q ∧ (Lit.float .f32 q).wf = true := by
      intro i hi
      obtain ⟨y, e1, _, w1⟩ := trod_float he (hx i (by omega)).2
      simp only [List.cons.injEq, and_true] at e1
      exact ⟨y, e1, w1⟩
    obtain ⟨F, hF⟩ := choose_lt hall
    refine ⟨F, hl, hm, fun j hj => (hF j hj).2, fun h0 => ⟨a, rfl, ?_, fun j hj => ?_⟩⟩
    · have := World.block_lt_of_cell? w _ (hx 0 (by omega)).1
      rwa [add_block] at this
    · rw [(hx j (by omega)).1, (hF j hj).1]; rfl
end

theorem run_store_float {P : Program} {w : World} {m : Mode} (a : Addr) (k : FloatKind) (x : Nat) : (store a (.float k x) m).run P w = stored P w a (.float k x) m := run_store P w a _ m rfl
attribute [local go_sem] run_store_float
set_option maxHeartbeats 400000 in
theorem toF (A : Option Addr) (n c : Nat) (x : Nat → Nat) (w : World) (hn : n ≤ 17592186044416) (ha : Rd w w.heap.size A n (fl x)) :
    Calls Try.prog 78 #[.slice A n c] w fun en w' => ∃ A' c', en = .returned (.slice A' n c') ∧ w'.ownsRow w.heap.size 61 1 (.slice A' n c') n (lst (fl x) n) ∧ w.grownBy w' none := by
  obtain ⟨i0, hi0, hz0, hz1, hz2⟩ := info_parts info32
  go_enter Try.func78, Try.ntmps78
  go_wp2_with (at_make; refine wpList_make_full _ rfl _ _ _ rfl w.heap.size 61 i0 (.float .f32 0) 1 Try.underlying58 hi0 hz0 hz1 _ _ _ _ n rfl rfl rfl rfl (by rw [hz2]; omega) (by unfold maxLen; omega) (Nat.le_refl _) ?_; intro w1 hown hg)
  go_loopw [4] (fun i wr => ∃ j : Nat, j ≤ n ∧ i = .int .i64 j ∧ wr.ownsRow w.heap.size 61 1 (.slice (some ⟨w.heap.size, 0, none⟩) n n) n (lst (mix (fl x) (fun _ => .float .f32 0) j) n) ∧ w.grownBy wr none) (fun i _ => n - (intOf i).toNat)
  case atStart =>
    refine ⟨0, Nat.zero_le _, rfl, ?_, hg⟩
    rw [mix_zero, ← replicate_lst]
    rw [Nat.mul_one] at hown
    exact (toList_madeCells_one (.float .f32 0) n) ▸ hown
  case round =>
    obtain ⟨j, hj, rfl, hown, hg⟩ := hrel
    by_cases hlt : j < n
    · obtain ⟨ad, rfl, hab, hc0⟩ := (ha.kept0 hg (Nat.le_refl _)).at_ hlt
      have hc : wr.cell? (ad.add j) = some (.float .f32 (x j)) := hc0
      have hcell := hown.cellAt j (by omega)
      rw [lst_get _ _ _ hlt] at hcell
      have hf := hown.frozenAt j
      obtain ⟨hs1, hs2⟩ := hown.stored j (fl x j)
      rw [mix_set _ _ _ _ hlt] at hs1
      rw [show fl x j = .float .f32 (x j) from rfl] at hs1 hs2
      have hs2' := gb_new hg hs2 (by intro g e; injection e with e; omega)
      clear hg hown hs2 hc0
      have HS := Lib.hid hs1
      have HG := Lib.hid hs2'
      clear hs1 hs2'
      go_wp2
      go_roundw
      case rel => exact ⟨j + 1, by omega, by go_num, HS.out, HG.out⟩
      case measure => simp [intOf]; omega
    · obtain rfl : j = n := by omega
      go_wp2
      go_ret
      exact ⟨_, _, rfl, by rw [← mix_full]; exact hown, hg⟩

attribute [local go_sem] cv3264
theorem gbD {a b : World} (h : a.grownBy b none) (k : Nat) : a.grownBy (b.drewN k) none := h.trans (gb_drewN _ _ _)
theorem same_g (a b : Nat) (w : World) (h : can .f64 a = can .f64 b) : Calls Try.prog 189 #[.float .f64 a, .float .f64 b] w fun e w' => e = .returned (.bool true) ∧ w.grownBy w' none :=
  (same_float a b w h).mono fun _ _ ⟨h1, n, h2⟩ => ⟨h1, h2 ▸ gb_drewN _ _ _⟩
set_option maxHeartbeats 800000 in
theorem eqF_true (A A' : Option Addr) (n c d B : Nat) (x : Nat → Nat) (w : World) (hn : n ≤ 9223372036854775807) (hB : B ≤ w.heap.size) (ha : Rd w B A n (fl x)) (hb : Rd w B A' n (fl x)) :
    Calls Try.prog 81 #[.slice A n c, .slice A' n d] w fun e w' => e = .returned (.bool true) ∧ w.grownBy w' none := by
  go_enter Try.func81, Try.ntmps81
  go_wp2
  go_loopw [5] (fun i wr => ∃ k : Nat, k ≤ n ∧ i = .int .i64 k ∧ w.grownBy wr none) (fun i _ => n - (intOf i).toNat)
  case atStart => exact ⟨0, Nat.zero_le _, rfl, World.grownBy.refl _ _⟩
  case round =>
    obtain ⟨k, hk, rfl, hg⟩ := hrel
    by_cases hlt : k < n
    · obtain ⟨ad, rfl, _, hc0⟩ := (ha.kept0 hg hB).at_ hlt
      obtain ⟨bd, rfl, _, hd0⟩ := (hb.kept0 hg hB).at_ hlt
      have hc : wr.cell? (ad.add k) = some (.float .f32 (x k)) := hc0
      have hd : wr.cell? (bd.add k) = some (.float .f32 (x k)) := hd0
      have hk0 : (0 : Int) ≤ k := by omega
      have hk1 : (k : Int) < n := by omega
      have hsame : ∀ (w1 w2 : World), can .f64 (cval .f32 w1 (x k) .f64) = can .f64 (cval .f32 w2 (x k) .f64) := fun w1 w2 => by rw [can_cval (wide_fits _) (by decide), can_cval (wide_fits _) (by decide)]
      have HSM := Lib.hid hsame
      clear hc0 hd0 hsame
      go_wp2
      go_region_with ((go_at_call 189; refine (same_g _ _ _ (HSM.out _ _)).mono ?_; rintro e w' ⟨rfl, hg5⟩))
      all_goals
        have hfin := (gbD hg _).trans hg5
        go_wp2
        go_roundw
        case rel => exact ⟨k + 1, by omega, by go_num, hfin⟩
        case measure => simp [intOf]; omega
    · go_wp2
      go_ret
      exact ⟨rfl, hg⟩

end Go.Proofs.Ytkjmlpdbnnmlhab.listF
