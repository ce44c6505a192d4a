/- How much earlier a wave comes. -/
import Derived.Test.YtdanlghaiekeaaaRows
import Derived.Test.YtdanlghaiekeaaaSlc
import Derived.Test.YtdanlghaiekeaaaSmall
import Derived.Test.YtdanlghaiekeaaaOpens
import Derived.Test.YtdanlghaiekeaaaPlaces
import Derived.WalkKit
import Derived.ProofKit
import Derived.OpenShut
import Derived.ShutString
import Derived.ChangeOld
import Derived.Below
import Derived.Lib.Hide
import Derived.BigQuiet
import Derived.Deep.QuietTactic
import Derived.WalkLawsBesides
import Derived.Outline
import Derived.Deep.LoopGhost
import Derived.Deep.QuietTactic
import Derived.BigQuiet
namespace Go.Proofs.Ytdanlghaiekeaaa.steps
open Go.ChangeShapes Go.WideShapes Go.ChangeAt Go.RowKit
open Go.ChangeMaps (open_string shut_string)
set_option linter.unusedVariables false
open Go Go.RowKit
open Go.Proofs.Ytdanlghaiekeaaa.slc Go.Proofs.Ytdanlghaiekeaaa.small Go.Proofs.Ytdanlghaiekeaaa.opens Go.Proofs.Ytdanlghaiekeaaa.places

theorem prod_bd (x u : Int) (h1 : -4096 ≤ x) (h2 : x ≤ 4096) (h3 : -64 ≤ u) (h4 : u ≤ 64) : -262144 ≤ x * u ∧ x * u ≤ 262144 := by
  have hn : (x * u).natAbs ≤ 4096 * 64 := by
    rw [Int.natAbs_mul]
    exact Nat.mul_le_mul (by omega) (by omega)
  omega

/-- What is returned. -/
def stR (x y u v : Int) : Int × Bool := if okB x y = true ∧ dirB u v = true then (x * u + y * v, true) else (0, false)

theorem steps_sum : True := trivial

set_option maxHeartbeats 400000 in
theorem st_spec : True := trivial

theorem steps_i (x y u v : Int) (w : World) (h1 : -262144 ≤ x * u ∧ x * u ≤ 262144) (h2 : -262144 ≤ y * v ∧ y * v ≤ 262144) :
    Calls Try.prog 144 #[.agg #[.int .i64 x, .int .i64 y], .agg #[.int .i64 u, .int .i64 v]] w fun e w' => e = .returned (.int .i64 (x * u + y * v)) ∧ w.grownBy w' none := by
  obtain ⟨a1, a2⟩ := h1
  obtain ⟨a3, a4⟩ := h2
  go_enter Try.func144, Try.ntmps144
  go_wp2
  go_ret
  exact ⟨rfl, (World.grownBy_alloc _ _ _).trans (World.grownBy_alloc _ _ _)⟩

set_option maxHeartbeats 400000 in
theorem st_impl (x y u v : Int) (w : World) :
    Calls Try.prog 75 #[.agg #[.int .i64 x, .int .i64 y], .agg #[.int .i64 u, .int .i64 v]] w fun e w' => e = .returned (.tuple #[.int .i64 (stR x y u v).1, .bool (stR x y u v).2]) ∧ w.grownBy w' none := by
  have hbox : w.grownBy ((w.alloc (.cells #[.int .i64 x, .int .i64 y] 49)).alloc (.cells #[.int .i64 u, .int .i64 v] 41)) none := (World.grownBy_alloc _ _ _).trans (World.grownBy_alloc _ _ _)
  unfold stR
  cases hx : okB x y
  · rw [if_neg (by simp)]
    go_enter Try.func75, Try.ntmps75
    go_wp2_with fail
    refine (place_impl x y _).mono ?_
    rintro e w1 ⟨rfl, hg1⟩
    go_wp2_with fail
    go_ret2
    exact ⟨rfl, hbox.trans hg1⟩
  · cases hd : dirB u v
    · rw [if_neg (by simp)]
      go_enter Try.func75, Try.ntmps75
      go_wp2_with fail
      refine (place_impl x y _).mono ?_
      rintro e w1 ⟨rfl, hg1⟩
      obtain ⟨hc0, hc1, hc2, hc3⟩ := boxed4 hg1
      go_wp2_with fail
      refine (dir_impl u v _).mono ?_
      rintro e w2 ⟨rfl, hg2⟩
      go_wp2_with fail
      go_ret2
      exact ⟨rfl, hbox.trans (hg1.trans hg2)⟩
    · rw [if_pos ⟨rfl, rfl⟩]
      obtain ⟨b1, b2, b3, b4⟩ := ok_yes hx
      obtain ⟨d1, d2, d3, d4, d5⟩ := dir_yes hd
      have p1 := prod_bd x u b1 b2 d1 d2
      have p2 := prod_bd y v b3 b4 d3 d4
      go_enter Try.func75, Try.ntmps75
      go_wp2_with fail
      refine (place_impl x y _).mono ?_
      rintro e w1 ⟨rfl, hg1⟩
      obtain ⟨hc0, hc1, hc2, hc3⟩ := boxed4 hg1
      go_wp2_with fail
      refine (dir_impl u v _).mono ?_
      rintro e w2 ⟨rfl, hg2⟩
      obtain ⟨he0, he1, he2, he3⟩ := boxed4 (hg1.trans hg2)
      go_wp2_with fail
      refine (steps_i x y u v _ p1 p2).mono ?_
      rintro e w3 ⟨rfl, hg3⟩
      go_wp2_with fail
      go_ret2
      exact ⟨rfl, hbox.trans ((hg1.trans hg2).trans hg3)⟩

end Go.Proofs.Ytdanlghaiekeaaa.steps
