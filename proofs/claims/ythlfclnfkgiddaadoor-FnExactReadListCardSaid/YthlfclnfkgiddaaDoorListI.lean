/- Lists of integers in a law: compared, marked, held, copied. -/
import Derived.Test.YthlfclnfkgiddaaDoorRows
import Derived.Test.YthlfclnfkgiddaaDoorSlc
import Derived.WalkKit
import Derived.ProofKit
import Derived.OpenShut
import Derived.ShutString
import Derived.ChangeOld
import Derived.Below
import Derived.Lib.Hide
import Derived.BigQuiet
import Derived.Deep.QuietTactic
import Derived.WalkLawsBesides
import Derived.Outline
import Derived.Deep.QuietTactic
import Derived.BigQuiet
import Derived.Deep.LoopGhost
namespace Go.Proofs.YthlfclnfkgiddaaDoor.listI
open Go.ChangeShapes Go.WideShapes Go.ChangeAt Go.RowKit
open Go.ChangeMaps (open_string shut_string)
set_option linter.unusedVariables false
open Go Go.RowKit
open Go.Proofs.YthlfclnfkgiddaaDoor.slc

theorem info64 : (Tryd.prog.info? 2).map (fun i => (i.zero, i.size, i.bytes)) = some (some (.int .i64 0), 1, 8) := by kernel_rfl

set_option maxHeartbeats 400000 in
theorem eqI_true (A A' : Option Addr) (n c d B : Nat) (f : Nat → Value) (w : World) (hn : n ≤ 9223372036854775807) (hi : Ints f n) (ha : Rd w B A n f) (hb : Rd w B A' n f) :
    Calls Tryd.prog 31 #[.slice A n c, .slice A' n d] w fun e w' => e = .returned (.bool true) ∧ w.grownBy w' none := by
  go_enter Tryd.func31, Tryd.ntmps31
  go_wp2
  go_loopw [5] (fun i wr => ∃ k : Nat, k ≤ n ∧ i = .int .i64 k ∧ ∃ q, wr = w.drewN q) (fun i _ => n - (intOf i).toNat)
  case atStart => exact ⟨0, Nat.zero_le _, rfl, 0, rfl⟩
  case round =>
    obtain ⟨k, hk, rfl, q, rfl⟩ := hrel
    by_cases hlt : k < n
    · obtain ⟨x, hx⟩ := hi k hlt
      obtain ⟨ad, rfl, _, hc⟩ := ha.at_ hlt
      obtain ⟨bd, rfl, _, hd⟩ := hb.at_ hlt
      rw [hx] at hc hd
      go_wp2
      go_quiet (fail)
      go_wp2
      go_roundw
      case rel => exact ⟨k + 1, by omega, by go_num, _, rfl⟩
      case measure => simp [intOf]; omega
    · go_wp2
      go_ret
      exact ⟨rfl, gb_drewN _ _ _⟩

set_option maxHeartbeats 400000 in
theorem markI (A : Option Addr) (n c base : Nat) (e : TypeId) (k : Nat) (f : Nat → Value) (w : World) (hn : n + k ≤ 4611686018427387904) (ho : w.ownsRow base e 1 (.slice A n c) n (lst f n)) :
    Calls Tryd.prog 32 #[.slice A n c, .int .i64 k] w fun en w' => en = .returned (.int .i64 (k + n : Nat)) ∧ w'.ownsRow base e 1 (.slice A n c) n (lst (mkv k) n) ∧ w.grownBy w' (A.map Addr.block) := by
  go_enter Tryd.func32, Tryd.ntmps32
  go_wp2
  go_loopw [1, 5] (fun m i wr => ∃ j : Nat, j ≤ n ∧ i = .int .i64 j ∧ m = .int .i64 (k + j : Nat) ∧ wr.ownsRow base e 1 (.slice A n c) n (lst (mix (mkv k) f j) n) ∧ w.grownBy wr (A.map Addr.block)) (fun _ i _ => n - (intOf i).toNat)
  case atStart => exact ⟨0, Nat.zero_le _, rfl, rfl, by rw [mix_zero]; exact ho, World.grownBy.refl _ _⟩
  case round =>
    obtain ⟨j, hj, rfl, rfl, hown, hg⟩ := hrel
    by_cases hlt : j < n
    · obtain ⟨g, cap, hv, _, _⟩ := hown.form (by omega)
      obtain ⟨rfl, rfl⟩ : A = some ⟨g, 0, none⟩ ∧ c = cap := by injection hv with a b c; exact ⟨a, c⟩
      clear hv
      have hc := hown.cellAt j (by omega)
      rw [lst_get _ _ _ hlt] at hc
      have hf := hown.frozenAt j
      obtain ⟨hs1, hs2⟩ := hown.stored j (mkv k j)
      rw [mix_set _ _ _ _ hlt] at hs1
      have hs2' := hg.trans hs2
      clear hg hown hs2
      have HS := Lib.hid hs1
      have HG := Lib.hid hs2'
      clear hs1 hs2'
      go_wp2
      go_roundw
      case rel => exact ⟨j + 1, by omega, by go_num, by go_num, HS.out, HG.out⟩
      case measure => simp [intOf]; omega
    · obtain rfl : j = n := by omega
      go_wp2
      go_ret
      exact ⟨by go_num, by rw [← mix_full]; exact hown, hg⟩

set_option maxHeartbeats 400000 in
theorem heldI (A : Option Addr) (n c B : Nat) (k : Nat) (w : World) (hn : n + k ≤ 4611686018427387904) (ha : Rd w B A n (mkv k)) :
    Calls Tryd.prog 33 #[.slice A n c, .int .i64 k] w fun en w' => en = .returned (.int .i64 (k + n : Nat)) ∧ w = w' := by
  go_enter Tryd.func33, Tryd.ntmps33
  go_wp2
  go_loop [1, 5] (fun m i => ∃ j : Nat, j ≤ n ∧ i = .int .i64 j ∧ m = .int .i64 (k + j : Nat)) (fun _ i => n - (intOf i).toNat)
  case atStart => exact ⟨0, Nat.zero_le _, rfl, rfl⟩
  case round =>
    obtain ⟨j, hj, rfl, rfl⟩ := hrel
    by_cases hlt : j < n
    · obtain ⟨ad, rfl, _, hc⟩ := ha.at_ hlt
      have hm : mkv k j = .int .i64 (k + j : Nat) := by simp [mkv]
      rw [hm] at hc
      clear hm
      go_wp2
      go_round
      case rel => exact ⟨j + 1, by omega, by go_num, by go_num⟩
      case measure => simp [intOf]; omega
    · obtain rfl : j = n := by omega
      go_wp2
      go_ret
      exact ⟨by go_num, rfl⟩

theorem toI : True := trivial

theorem markI1 (A : Option Addr) (n c base : Nat) (e : TypeId) (f : Nat → Value) (w : World) (hn : n ≤ 1099511627776) (ho : w.ownsRow base e 1 (.slice A n c) n (lst f n)) :
    Calls Tryd.prog 32 #[.slice A n c, .int .i64 1] w fun en w' => en = .returned (.int .i64 (n + 1)) ∧ w'.ownsRow base e 1 (.slice A n c) n (lst (mkv 1) n) ∧ w.grownBy w' (A.map Addr.block) :=
  (markI A n c base e 1 f w (by omega) ho).mono fun en w' ⟨h1, h2, h3⟩ => ⟨by rw [h1]; go_num, h2, h3⟩
theorem heldI1 (A : Option Addr) (n c B : Nat) (w : World) (hn : n ≤ 1099511627776) (ha : Rd w B A n (mkv 1)) :
    Calls Tryd.prog 33 #[.slice A n c, .int .i64 1] w fun en w' => en = .returned (.int .i64 (n + 1)) ∧ w = w' :=
  (heldI A n c B 1 w (by omega) ha).mono fun en w' ⟨h1, h2⟩ => ⟨by rw [h1]; go_num, h2⟩

/-- A function answers with a list of integers of its own, and a bool. -/
def GivesI (F : Nat) (args : Array Value) (xs : List Int) (ok : Bool) : Prop :=
  ∀ w : World, Calls Tryd.prog F args w fun e w' => ∃ A c, e = .returned (.tuple #[.slice A xs.length c, .bool ok]) ∧ w'.ownsRow w.heap.size 2 1 (.slice A xs.length c) xs.length (ints xs) ∧ w.grownBy w' none

end Go.Proofs.YthlfclnfkgiddaaDoor.listI
