/- The ticks of a turn, by the program and the model. -/
import Derived.Test.YtbefoiikbbjjfaaRows
import Derived.Test.YtbefoiikbbjjfaaSlc
import Derived.Test.YtbefoiikbbjjfaaSmall
import Derived.Test.YtbefoiikbbjjfaaOpens
import Derived.Test.YtbefoiikbbjjfaaPlanNum
import Derived.WalkKit
import Derived.ProofKit
import Derived.OpenShut
import Derived.ShutString
import Derived.ChangeOld
import Derived.Below
import Derived.Lib.Hide
import Derived.BigQuiet
import Derived.Deep.QuietTactic
import Derived.WalkLawsBesides
import Derived.Outline
import Derived.Deep.QuietTactic
import Derived.BigQuiet
import Derived.Deep.LoopGhost
namespace Go.Proofs.Ytbefoiikbbjjfaa.swT
open Go.ChangeShapes Go.WideShapes Go.ChangeAt Go.RowKit
open Go.ChangeMaps (open_string shut_string)
set_option linter.unusedVariables false
open Go Go.RowKit
open Go.Proofs.Ytbefoiikbbjjfaa.slc Go.Proofs.Ytbefoiikbbjjfaa.small Go.Proofs.Ytbefoiikbbjjfaa.planNum

theorem gt_max (x y : Int) : (if y > x then y else x) = max x y := by omega
theorem max4 (t : TypeId) (w : World) (a b c d m : Int) (hm : max (max a b) (max c d) = m) : (Builtin.max_ #[t, t, t, t] t #[.int .i64 a, .int .i64 b, .int .i64 c, .int .i64 d]).run Try.prog w = .ok (.int .i64 m) w := by
  subst hm
  have e : Builtin.max_ #[t, t, t, t] t #[.int .i64 a, .int .i64 b, .int .i64 c, .int .i64 d] = pure (.int .i64 (max (max a b) (max c d))) := by
    simp only [Builtin.max_, List.foldlM, Builtin.max2, pure_bind, bind_pure, gt_max]
    congr 2
    omega
  rw [e]
  rfl

section
attribute [local go_sem] max4
set_option maxHeartbeats 800000 in
set_option maxRecDepth 100000 in
theorem diff_c (u v u' v' : Int) (w : World) (h : Bd u v) (h' : Bd u' v') :
    Calls Try.prog 172 #[.agg #[.int .i64 u, .int .i64 v], .agg #[.int .i64 u', .int .i64 v']] w fun e w' => e = .returned (.int .i64 (df u v u' v')) ∧ w.grownBy w' none := by
  obtain ⟨a1, a2, a3, a4⟩ := h
  obtain ⟨b1, b2, b3, b4⟩ := h'
  have hm := fun w => max4 2 w (u - u') (u' - u) (v - v') (v' - v) (df u v u' v') rfl
  go_enter Try.func172, Try.ntmps172
  go_wp2_with fail
  go_ret
  exact ⟨rfl, (World.grownBy_alloc _ _ _).trans (World.grownBy_alloc _ _ _)⟩
end

set_option maxHeartbeats 800000 in
theorem sw_impl (u v u' v' : Int) (w : World) (h : Bd u v) (h' : Bd u' v') :
    Calls Try.prog 113 #[.agg #[.int .i64 u, .int .i64 v], .agg #[.int .i64 u', .int .i64 v']] w fun e w' => e = .returned (.int .i64 (sw u v u' v')) ∧ w.grownBy w' none := by
  have HD := fun w => diff_c u v u' v' w h h'
  obtain ⟨d0, d1⟩ := df_bd h h'
  clear h h'
  unfold sw
  generalize df u v u' v' = D at HD d0 d1 ⊢
  have HE := Lib.hid HD
  clear HD
  go_enter Try.func113, Try.ntmps113
  go_wp2_with fail
  refine (HE.out _).mono ?_
  rintro e w1 ⟨rfl, g1⟩
  go_wp2_with fail
  go_ret
  exact ⟨ret_int (show (D + 16 - 1) / 16 = (D + 15) / 16 by omega), (World.grownBy_alloc _ _ _).trans ((World.grownBy_alloc _ _ _).trans g1)⟩

theorem max_c : True := trivial
theorem abs_c : True := trivial

set_option maxHeartbeats 800000 in
set_option maxRecDepth 100000 in
theorem sw_spec : True := trivial

end Go.Proofs.Ytbefoiikbbjjfaa.swT
