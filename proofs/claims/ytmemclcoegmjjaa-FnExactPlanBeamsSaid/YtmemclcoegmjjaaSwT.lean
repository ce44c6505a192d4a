/- The ticks of a turn, by the program and the model. -/
import Derived.Test.YtmemclcoegmjjaaRows
import Derived.Test.YtmemclcoegmjjaaSlc
import Derived.Test.YtmemclcoegmjjaaSmall
import Derived.Test.YtmemclcoegmjjaaOpens
import Derived.Test.YtmemclcoegmjjaaPlanNum
import Derived.WalkKit
import Derived.ProofKit
import Derived.OpenShut
import Derived.ShutString
import Derived.ChangeOld
import Derived.Below
import Derived.Lib.Hide
import Derived.BigQuiet
import Derived.Deep.QuietTactic
import Derived.WalkLawsBesides
import Derived.Outline
import Derived.Deep.QuietTactic
import Derived.BigQuiet
import Derived.Deep.LoopGhost
namespace Go.Proofs.Ytmemclcoegmjjaa.swT
open Go.ChangeShapes Go.WideShapes Go.ChangeAt Go.RowKit
open Go.ChangeMaps (open_string shut_string)
set_option linter.unusedVariables false
open Go Go.RowKit
open Go.Proofs.Ytmemclcoegmjjaa.slc Go.Proofs.Ytmemclcoegmjjaa.small Go.Proofs.Ytmemclcoegmjjaa.planNum

theorem gt_max (x y : Int) : (if y > x then y else x) = max x y := by omega
theorem max4 (t : TypeId) (w : World) (a b c d m : Int) (hm : max (max a b) (max c d) = m) : (Builtin.max_ #[t, t, t, t] t #[.int .i64 a, .int .i64 b, .int .i64 c, .int .i64 d]).run Try.prog w = .ok (.int .i64 m) w := by
  subst hm
  have e : Builtin.max_ #[t, t, t, t] t #[.int .i64 a, .int .i64 b, .int .i64 c, .int .i64 d] = pure (.int .i64 (max (max a b) (max c d))) := by
    simp only [Builtin.max_, List.foldlM, Builtin.max2, pure_bind, bind_pure, gt_max]
    congr 2
    omega
  rw [e]
  rfl

section
attribute [local go_sem] max4
set_option maxHeartbeats 800000 in
set_option maxRecDepth 100000 in
theorem diff_c (u v u' v' : Int) (w : World) (h : Bd u v) (h' : Bd u' v') :
    Calls Try.prog 107 #[.agg #[.int .i64 u, .int .i64 v], .agg #[.int .i64 u', .int .i64 v']] w fun e w' => e = .returned (.int .i64 (df u v u' v')) ∧ w.grownBy w' none := by
  obtain ⟨a1, a2, a3, a4⟩ := h
  obtain ⟨b1, b2, b3, b4⟩ := h'
  have hm := fun w => max4 2 w (u - u') (u' - u) (v - v') (v' - v) (df u v u' v') rfl
  go_enter Try.func107, Try.ntmps107
  go_wp2_with fail
  go_ret
  exact ⟨rfl, (World.grownBy_alloc _ _ _).trans (World.grownBy_alloc _ _ _)⟩
end

set_option maxHeartbeats 800000 in
theorem sw_impl (u v u' v' : Int) (w : World) (h : Bd u v) (h' : Bd u' v') :
    Calls Try.prog 99 #[.agg #[.int .i64 u, .int .i64 v], .agg #[.int .i64 u', .int .i64 v']] w fun e w' => e = .returned (.int .i64 (sw u v u' v')) ∧ w.grownBy w' none := by
  have HD := fun w => diff_c u v u' v' w h h'
  obtain ⟨d0, d1⟩ := df_bd h h'
  clear h h'
  unfold sw
  generalize df u v u' v' = D at HD d0 d1 ⊢
  have HE := Lib.hid HD
  clear HD
  go_enter Try.func99, Try.ntmps99
  go_wp2_with fail
  refine (HE.out _).mono ?_
  rintro e w1 ⟨rfl, g1⟩
  go_wp2_with fail
  go_ret
  exact ⟨ret_int (show (D + 16 - 1) / 16 = (D + 15) / 16 by omega), (World.grownBy_alloc _ _ _).trans ((World.grownBy_alloc _ _ _).trans g1)⟩

theorem max_c (a b : Int) (w : World) :
    Calls Try.prog 178 #[.int .i64 a, .int .i64 b] w fun e w' => e = .returned (.int .i64 (max a b)) ∧ w = w' := by
  by_cases h : b < a
  · go_enter Try.func178, Try.ntmps178
    go_wp2_with fail
    go_ret
    exact ⟨ret_int (by omega), rfl⟩
  · have h2 : a ≤ b := by omega
    clear h
    go_enter Try.func178, Try.ntmps178
    go_wp2_with fail
    go_ret
    exact ⟨ret_int (by omega), rfl⟩
theorem abs_c (n : Int) (w : World) (h : -200 ≤ n) (h2 : n ≤ 200) :
    Calls Try.prog 179 #[.int .i64 n] w fun e w' => e = .returned (.int .i64 (max n (-n))) ∧ w = w' := by
  go_enter Try.func179, Try.ntmps179
  go_wp2_with fail
  refine (max_c _ _ _).mono ?_
  rintro e w' ⟨rfl, rfl⟩
  go_wp2_with fail
  go_ret
  exact ⟨rfl, rfl⟩

set_option maxHeartbeats 800000 in
set_option maxRecDepth 100000 in
theorem sw_spec (u v u' v' : Int) (w : World) (h : Bd u v) (h' : Bd u' v') :
    Calls Try.prog 161 #[.agg #[.int .i64 u, .int .i64 v], .agg #[.int .i64 u', .int .i64 v']] w fun e w' => e = .returned (.int .i64 (sw u v u' v')) ∧ w.grownBy w' none := by
  obtain ⟨d0, d1⟩ := df_bd h h'
  obtain ⟨a1, a2, a3, a4⟩ := h
  obtain ⟨b1, b2, b3, b4⟩ := h'
  have H1 := Lib.hid (fun (w : World) (q : Nat) => Calls.quiet_of_same ((abs_c (u - u') (w.drewN q) (by omega) (by omega)).mono (by rintro e w' ⟨rfl, rfl⟩; exact ⟨rfl, rfl⟩)))
  have H2 := Lib.hid (fun (w : World) (q : Nat) => Calls.quiet_of_same ((abs_c (v - v') (w.drewN q) (by omega) (by omega)).mono (by rintro e w' ⟨rfl, rfl⟩; exact ⟨rfl, rfl⟩)))
  have H3 := fun (w : World) (q : Nat) => Calls.quiet_of_same ((max_c (max (u - u') (-(u - u'))) (max (v - v') (-(v - v'))) (w.drewN q)).mono (by rintro e w' ⟨rfl, rfl⟩; exact ⟨rfl, rfl⟩))
  rw [show max (max (u - u') (-(u - u'))) (max (v - v') (-(v - v'))) = df u v u' v' by unfold df; omega] at H3
  unfold sw
  generalize df u v u' v' = D at d0 d1 H3 ⊢
  generalize hP : max (u - u') (-(u - u')) = P at H1 H3
  generalize hQ : max (v - v') (-(v - v')) = Q at H2 H3
  have H4 := Lib.hid H3
  have hq : Int.tdiv (D + 15) 16 = (D + 15) / 16 := by rw [Int.tdiv_eq_ediv_of_nonneg (by omega)]
  have w1 : IntKind.i64.wrap (u - u') = u - u' := by rw [IntKind.wrap_i64]; omega
  have w2 : IntKind.i64.wrap (v - v') = v - v' := by rw [IntKind.wrap_i64]; omega
  have w3 : IntKind.i64.wrap (D + 15) = D + 15 := by rw [IntKind.wrap_i64]; omega
  clear hP hQ H3
  go_enter Try.func161, Try.ntmps161
  go_wp2_with fail
  go_quiet (first
    | (go_at_call 179; exact H1.out _ _)
    | (go_at_call 179; exact H2.out _ _)
    | (go_at_call 178; exact H4.out _ _))
  go_wp2_with fail
  go_ret
  exact ⟨by first | rfl | rw [hq], (World.grownBy_alloc _ _ _).trans ((World.grownBy_alloc _ _ _).trans (gb_drewN _ _ _))⟩

end Go.Proofs.Ytmemclcoegmjjaa.swT
