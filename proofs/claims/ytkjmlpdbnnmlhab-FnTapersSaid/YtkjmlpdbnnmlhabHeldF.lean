/- Lists of 32-bit numbers marked and held. -/
import Derived.Test.YtkjmlpdbnnmlhabRows
import Derived.Test.YtkjmlpdbnnmlhabSlc
import Derived.Test.YtkjmlpdbnnmlhabFloats
import Derived.Test.YtkjmlpdbnnmlhabRound
import Derived.Test.YtkjmlpdbnnmlhabValues
import Derived.Test.YtkjmlpdbnnmlhabConv
import Derived.Test.YtkjmlpdbnnmlhabFWalk
import Derived.Test.YtkjmlpdbnnmlhabListF
import Derived.WalkKit
import Derived.ProofKit
import Derived.OpenShut
import Derived.ShutString
import Derived.ChangeOld
import Derived.Below
import Derived.Lib.Hide
import Derived.BigQuiet
import Derived.Deep.QuietTactic
import Derived.WalkLawsBesides
import Derived.Outline
import Derived.Deep.QuietTactic
import Derived.BigQuiet
import Derived.Deep.LoopGhost
import Derived.Laws.Cover2
namespace Go.Proofs.Ytkjmlpdbnnmlhab.heldF
open Go.ChangeShapes Go.WideShapes Go.ChangeAt Go.RowKit
open Go.ChangeMaps (open_string shut_string)
set_option linter.unusedVariables false
open Go Ieee Go.RowKit
open Go.Proofs.Ytkjmlpdbnnmlhab.slc Go.Proofs.Ytkjmlpdbnnmlhab.floats Go.Proofs.Ytkjmlpdbnnmlhab.round Go.Proofs.Ytkjmlpdbnnmlhab.values Go.Proofs.Ytkjmlpdbnnmlhab.conv Go.Proofs.Ytkjmlpdbnnmlhab.fWalk Go.Proofs.Ytkjmlpdbnnmlhab.listF

theorem run_store_float {P : Program} {w : World} {m : Mode} (a : Addr) (k : FloatKind) (x : Nat) : (store a (.float k x) m).run P w = stored P w a (.float k x) m := run_store P w a _ m rfl
theorem cvi32 (w : World) (n : Int) : (convert 3 61 (.int .i64 n)).run Try.prog w = .ok (.float .f32 (floatOfInt .f32 n)) w :=
  run_convert_int_float w _ _ .i64 .f32 n (by rw [Try.underlying3]; rfl) Try.underlying61
attribute [local go_sem] run_store_float cvi32
def mkf (k : Nat) : Nat → Value := fun j => .float .f32 (floatOfInt .f32 ((k + j : Nat) : Int))
set_option maxHeartbeats 400000 in
theorem markF (A : Option Addr) (n c base : Nat) (e : TypeId) (k : Nat) (f : Nat → Value) (w : World) (hn : n + k ≤ 4611686018427387904) (ho : w.ownsRow base e 1 (.slice A n c) n (lst f n)) :
    Calls Try.prog 83 #[.slice A n c, .int .i64 k] w fun en w' => en = .returned (.int .i64 (k + n : Nat)) ∧ w'.ownsRow base e 1 (.slice A n c) n (lst (mkf k) n) ∧ w.grownBy w' (A.map Addr.block) := by
  go_enter Try.func83, Try.ntmps83
  go_wp2
  go_loopw [1, 5] (fun m i wr => ∃ j : Nat, j ≤ n ∧ i = .int .i64 j ∧ m = .int .i64 (k + j : Nat) ∧ wr.ownsRow base e 1 (.slice A n c) n (lst (mix (mkf k) f j) n) ∧ w.grownBy wr (A.map Addr.block)) (fun _ i _ => n - (intOf i).toNat)
  case atStart => exact ⟨0, Nat.zero_le _, rfl, rfl, by rw [mix_zero]; exact ho, World.grownBy.refl _ _⟩
  case round =>
    obtain ⟨j, hj, rfl, rfl, hown, hg⟩ := hrel
    by_cases hlt : j < n
    · obtain ⟨g, cap, hv, _, _⟩ := hown.form (by omega)
      obtain ⟨rfl, rfl⟩ : A = some ⟨g, 0, none⟩ ∧ c = cap := by injection hv with a b c; exact ⟨a, c⟩
      clear hv
      have hc := hown.cellAt j (by omega)
      rw [lst_get _ _ _ hlt] at hc
      have hf := hown.frozenAt j
      obtain ⟨hs1, hs2⟩ := hown.stored j (mkf k j)
      rw [mix_set _ _ _ _ hlt] at hs1
      rw [show mkf k j = .float .f32 (floatOfInt .f32 ((k + j : Nat) : Int)) from rfl] at hs1 hs2
      have hs2' := hg.trans hs2
      clear hg hown hs2
      have HS := Lib.hid hs1
      have HG := Lib.hid hs2'
      clear hs1 hs2'
      go_wp2
      go_roundw
      case rel => exact ⟨j + 1, by omega, by go_num, by go_num, by simpa using HS.out, by simpa using HG.out⟩
      case measure => simp [intOf]; omega
    · obtain rfl : j = n := by omega
      go_wp2
      go_ret
      exact ⟨by go_num, by rw [← mix_full]; exact hown, hg⟩
theorem markF1 (A : Option Addr) (n c base : Nat) (e : TypeId) (f : Nat → Value) (w : World) (hn : n ≤ 1099511627776) (ho : w.ownsRow base e 1 (.slice A n c) n (lst f n)) :
    Calls Try.prog 83 #[.slice A n c, .int .i64 1] w fun en w' => en = .returned (.int .i64 (n + 1)) ∧ w'.ownsRow base e 1 (.slice A n c) n (lst (mkf 1) n) ∧ w.grownBy w' (A.map Addr.block) :=
  (markF A n c base e 1 f w (by omega) ho).mono fun en w' ⟨h1, h2, h3⟩ => ⟨by rw [h1]; go_num, h2, h3⟩

theorem mkf_d : ∀ j : Nat, j < 70 → isNaN .f32 (floatOfInt .f32 (j : Int)) = false := by decide +kernel
theorem mkf_eq (j : Nat) (h : j < 70) : (FloatKind.f32.format.order (floatOfInt .f32 (j : Int)) (floatOfInt .f32 (j : Int)) == some .eq) = true := by
  rw [order_refl (k := .f32) (mkf_d j h)]; rfl
set_option maxHeartbeats 400000 in
set_option maxRecDepth 100000 in
theorem heldF : True := trivial
theorem heldF1 : True := trivial

/-- A function answers with a list of 32-bit numbers of its own, and a bool. -/
def GivesF (F : Nat) (args : Array Value) (x : Nat → Nat) (n : Nat) (ok : Bool) : Prop :=
  ∀ w : World, Calls Try.prog F args w fun e w' => ∃ A c, e = .returned (.tuple #[.slice A n c, .bool ok]) ∧ w'.ownsRow w.heap.size 61 1 (.slice A n c) n (lst (fl x) n) ∧ w.grownBy w' none

end Go.Proofs.Ytkjmlpdbnnmlhab.heldF
