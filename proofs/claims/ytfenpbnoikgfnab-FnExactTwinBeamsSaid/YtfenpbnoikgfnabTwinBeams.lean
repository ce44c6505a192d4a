/- The law on TwinBeams answers true at every spacing and every U. No condition. -/
import Derived.Test.YtfenpbnoikgfnabRows
import Derived.Test.YtfenpbnoikgfnabSlc
import Derived.Test.YtfenpbnoikgfnabListI
import Derived.WalkKit
import Derived.ProofKit
import Derived.OpenShut
import Derived.ShutString
import Derived.ChangeOld
import Derived.Below
import Derived.Lib.Hide
import Derived.BigQuiet
import Derived.Deep.QuietTactic
import Derived.WalkLawsBesides
import Derived.Outline
import Derived.Deep.QuietTactic
import Derived.BigQuiet
import Derived.Deep.LoopGhost
namespace Go.Proofs.Ytfenpbnoikgfnab.twinBeams
open Go.ChangeShapes Go.WideShapes Go.ChangeAt Go.RowKit
open Go.ChangeMaps (open_string shut_string)
set_option linter.unusedVariables false
theorem own : ownKnob Try.prog.godebug = none := by kernel_rfl
theorem laidOut : laidOutB Try.prog = true := by kernel_rfl
open Go Go.RowKit
open Go.Proofs.Ytfenpbnoikgfnab.slc Go.Proofs.Ytfenpbnoikgfnab.listI

theorem in_yes (n lo hi : Int) (w : World) (h : lo ≤ n) (h2 : n ≤ hi) :
    Calls Try.prog 59 #[.int .i64 n, .int .i64 lo, .int .i64 hi] w fun e w' => e = .returned (.bool true) ∧ w = w' := by
  go_enter Try.func59, Try.ntmps59
  go_wp2
  go_ret
  simp_all
theorem in_no (n lo hi : Int) (w : World) (h : n < lo ∨ hi < n) :
    Calls Try.prog 59 #[.int .i64 n, .int .i64 lo, .int .i64 hi] w fun e w' => e = .returned (.bool false) ∧ w = w' := by
  by_cases hn : n < lo
  · go_enter Try.func59, Try.ntmps59
    go_wp2
    go_ret
    simp_all
  · have h3 : hi < n := by omega
    clear h
    go_enter Try.func59, Try.ntmps59
    go_wp2
    go_ret
    simp_all

theorem within_yes (n lo hi : Int) (w : World) (h : lo ≤ n) (h2 : n ≤ hi) :
    Calls Try.prog 75 #[.int .i64 n, .int .i64 lo, .int .i64 hi] w fun e w' => e = .returned (.bool true) ∧ w = w' := by
  go_enter Try.func75, Try.ntmps75
  go_wp2
  go_ret
  simp_all
theorem within_no (n lo hi : Int) (w : World) (h : n < lo ∨ hi < n) :
    Calls Try.prog 75 #[.int .i64 n, .int .i64 lo, .int .i64 hi] w fun e w' => e = .returned (.bool false) ∧ w = w' := by
  by_cases hn : n < lo
  · go_enter Try.func75, Try.ntmps75
    go_wp2
    go_ret
    simp_all
  · have h3 : hi < n := by omega
    clear h
    go_enter Try.func75, Try.ntmps75
    go_wp2
    go_ret
    simp_all
theorem share_yes (n : Int) (w : World) (h : -64 ≤ n) (h2 : n ≤ 64) :
    Calls Try.prog 58 #[.int .i64 n] w fun e w' => e = .returned (.bool true) ∧ w = w' := by
  go_enter Try.func58, Try.ntmps58
  go_wp2_with (go_at_call 75; refine (within_yes _ _ _ _ h h2).mono ?_; rintro e w' ⟨rfl, rfl⟩)
  go_ret
  exact ⟨rfl, rfl⟩
theorem share_no (n : Int) (w : World) (h : n < -64 ∨ 64 < n) :
    Calls Try.prog 58 #[.int .i64 n] w fun e w' => e = .returned (.bool false) ∧ w = w' := by
  go_enter Try.func58, Try.ntmps58
  go_wp2_with (go_at_call 75; refine (within_no _ _ _ _ h).mono ?_; rintro e w' ⟨rfl, rfl⟩)
  go_ret
  exact ⟨rfl, rfl⟩

/-- The twins among the first k directions from -64 on. -/
def tw (s u : Int) (k : Nat) : List Int := ((List.range k).map fun i : Nat => (i : Int) - 64).filter fun t => ((t - u) * s).tmod 4096 == 0
theorem tw_zero (s u : Int) : tw s u 0 = [] := rfl
theorem tw_succ (s u : Int) (k : Nat) : tw s u (k + 1) = tw s u k ++ (if ((((k : Int) - 64) - u) * s).tmod 4096 = 0 then [(k : Int) - 64] else []) := by
  unfold tw
  rw [List.range_succ, List.map_append, List.filter_append]
  simp [List.filter_cons]
theorem tw_len (s u : Int) (k : Nat) : (tw s u k).length ≤ k := by
  unfold tw
  exact Nat.le_trans (List.length_filter_le _ _) (by simp)
theorem prod_bd (s u t : Int) (h1 : 1 ≤ s) (h2 : s ≤ 4096) (h3 : -64 ≤ u) (h4 : u ≤ 64) (h5 : -64 ≤ t) (h6 : t ≤ 64) : -524288 ≤ (t - u) * s ∧ (t - u) * s ≤ 524288 := by
  have a : (t - u) * s ≤ 128 * s := Int.mul_le_mul_of_nonneg_right (by omega) (by omega)
  have b : (-128) * s ≤ (t - u) * s := Int.mul_le_mul_of_nonneg_right (by omega) (by omega)
  omega

set_option maxHeartbeats 400000 in
set_option maxRecDepth 100000 in
theorem spec_yes (s u : Int) (w : World) (h1 : 1 ≤ s) (h2 : s ≤ 4096) (h3 : -64 ≤ u) (h4 : u ≤ 64) :
    Calls Try.prog 46 #[.int .i64 s, .int .i64 u] w fun e w' => ∃ A c, e = .returned (.tuple #[.slice A (tw s u 129).length c, .bool true]) ∧ w'.ownsRow w.heap.size 2 1 (.slice A (tw s u 129).length c) (tw s u 129).length (ints (tw s u 129)) ∧ w.grownBy w' none := by
  obtain ⟨i0, hi0, hz0, hz1, hz2⟩ := info_parts info64
  go_enter Try.func46, Try.ntmps46
  go_wp2_with (go_at_call 59; refine (in_yes _ _ _ _ (by omega) (by omega)).mono ?_; rintro e w' ⟨rfl, rfl⟩)
  go_loopw [6, 7] (fun v i wr => ∃ k : Nat, k ≤ 129 ∧ i = .int .i64 ((k : Int) - 64) ∧ wr.ownsRow w.heap.size 2 1 v (tw s u k).length (ints (tw s u k)) ∧ w.grownBy wr none) (fun _ i _ => (65 - intOf i).toNat)
  case atStart => exact ⟨0, by omega, rfl, World.ownsRow_lit w #[] 0 (Nat.le_refl _) (Nat.zero_le _) rfl, World.grownBy_alloc _ _ _⟩
  case round =>
    obtain ⟨k, hk, rfl, hown, hg⟩ := hrel
    have hl := tw_len s u k
    by_cases hlt : k < 129
    · obtain ⟨hb1, hb2⟩ := prod_bd s u ((k : Int) - 64) h1 h2 h3 h4 (by omega) (by omega)
      have hs := tw_succ s u k
      have hbs := Nat.le_trans hg.size (show wr.heap.size ≤ (wr.alloc (.cells #[.int .i64 ((k : Int) - 64)] 2)).heap.size by simp)
      by_cases hz : ((((k : Int) - 64) - u) * s).tmod 4096 = 0
      · rw [if_pos hz] at hs
        have HS := Lib.hid hs
        clear hs
        go_wp2_with (at_builtin; refine wpList_append_own _ rfl _ _ 60 rfl w.heap.size 2 i0 (.int .i64 0) 1 8 Try.underlying60 hi0 hz0 hz1 hz2 rfl (by decide) _ _ _ rfl (hown.alloc _) ⟨wr.heap.size, 0, none⟩ 1 1 [.int .i64 ((k : Int) - 64)] rfl rfl (cell_one_new _ _ _) (int_one _ _) (by unfold maxLen; omega) (by omega) hbs ?_; intro v' w1 hown' hgrow _)
        go_roundw
        case rel =>
          refine ⟨k + 1, by omega, ?_, ?_, ?_⟩
          · exact congrArg (Value.int .i64) (by omega)
          · rw [HS.out, List.length_append, ← ints_snoc]; exact hown'
          · exact gb_own (hg.trans (World.grownBy_alloc _ _ _)) (hown.alloc _) (Nat.le_refl _) hgrow
        case measure => simp [intOf]; omega
      · rw [if_neg hz, List.append_nil] at hs
        have HS := Lib.hid hs
        clear hs
        go_wp2
        go_roundw
        case rel => exact ⟨k + 1, by omega, congrArg (Value.int .i64) (by omega), by rw [HS.out]; exact hown, hg⟩
        case measure => simp [intOf]; omega
    · obtain rfl : k = 129 := by omega
      obtain ⟨A, c, rfl⟩ := own_form hown
      go_wp2
      go_ret2
      exact ⟨_, _, rfl, hown, hg⟩

set_option maxHeartbeats 400000 in
set_option maxRecDepth 100000 in
theorem impl_yes (s u : Int) (w : World) (h1 : 1 ≤ s) (h2 : s ≤ 4096) (h3 : -64 ≤ u) (h4 : u ≤ 64) :
    Calls Try.prog 47 #[.int .i64 s, .int .i64 u] w fun e w' => ∃ A c, e = .returned (.tuple #[.slice A (tw s u 129).length c, .bool true]) ∧ w'.ownsRow w.heap.size 2 1 (.slice A (tw s u 129).length c) (tw s u 129).length (ints (tw s u 129)) ∧ w.grownBy w' none := by
  obtain ⟨i0, hi0, hz0, hz1, hz2⟩ := info_parts info64
  go_enter Try.func47, Try.ntmps47
  go_wp2_with (first
    | (go_at_call 75; refine (within_yes _ _ _ _ (by omega) (by omega)).mono ?_; rintro e w' ⟨rfl, rfl⟩)
    | (go_at_call 58; refine (share_yes _ _ (by omega) (by omega)).mono ?_; rintro e w' ⟨rfl, rfl⟩))
  go_loopw [6, 7] (fun v i wr => ∃ k : Nat, k ≤ 129 ∧ i = .int .i64 ((k : Int) - 64) ∧ wr.ownsRow w.heap.size 2 1 v (tw s u k).length (ints (tw s u k)) ∧ w.grownBy wr none) (fun _ i _ => (65 - intOf i).toNat)
  case atStart => exact ⟨0, by omega, rfl, World.ownsRow_nil _ _ _ _, World.grownBy.refl _ _⟩
  case round =>
    obtain ⟨k, hk, rfl, hown, hg⟩ := hrel
    have hl := tw_len s u k
    by_cases hlt : k < 129
    · obtain ⟨hb1, hb2⟩ := prod_bd s u ((k : Int) - 64) h1 h2 h3 h4 (by omega) (by omega)
      have hs := tw_succ s u k
      have hbs := Nat.le_trans hg.size (show wr.heap.size ≤ (wr.alloc (.cells #[.int .i64 ((k : Int) - 64)] 2)).heap.size by simp)
      by_cases hz : ((((k : Int) - 64) - u) * s).tmod 4096 = 0
      · rw [if_pos hz] at hs
        have HS := Lib.hid hs
        clear hs
        go_wp2_with (at_builtin; refine wpList_append_own _ rfl _ _ 60 rfl w.heap.size 2 i0 (.int .i64 0) 1 8 Try.underlying60 hi0 hz0 hz1 hz2 rfl (by decide) _ _ _ rfl (hown.alloc _) ⟨wr.heap.size, 0, none⟩ 1 1 [.int .i64 ((k : Int) - 64)] rfl rfl (cell_one_new _ _ _) (int_one _ _) (by unfold maxLen; omega) (by omega) hbs ?_; intro v' w1 hown' hgrow _)
        go_roundw
        case rel =>
          refine ⟨k + 1, by omega, ?_, ?_, ?_⟩
          · exact congrArg (Value.int .i64) (by omega)
          · rw [HS.out, List.length_append, ← ints_snoc]; exact hown'
          · exact gb_own (hg.trans (World.grownBy_alloc _ _ _)) (hown.alloc _) (Nat.le_refl _) hgrow
        case measure => simp [intOf]; omega
      · rw [if_neg hz, List.append_nil] at hs
        have HS := Lib.hid hs
        clear hs
        go_wp2
        go_roundw
        case rel => exact ⟨k + 1, by omega, congrArg (Value.int .i64) (by omega), by rw [HS.out]; exact hown, hg⟩
        case measure => simp [intOf]; omega
    · obtain rfl : k = 129 := by omega
      obtain ⟨A, c, rfl⟩ := own_form hown
      go_wp2
      go_ret2
      exact ⟨_, _, rfl, hown, hg⟩

theorem spec_no (s u : Int) (w : World) (h : s < 1 ∨ 4096 < s ∨ u < -64 ∨ 64 < u) :
    Calls Try.prog 46 #[.int .i64 s, .int .i64 u] w fun e w' => e = .returned (.tuple #[.slice none 0 0, .bool false]) ∧ w = w' := by
  by_cases hs : s < 1 ∨ 4096 < s
  · clear h
    go_enter Try.func46, Try.ntmps46
    go_wp2_with (go_at_call 59; refine (in_no _ _ _ _ hs).mono ?_; rintro e w' ⟨rfl, rfl⟩)
    go_ret2
    exact ⟨rfl, rfl⟩
  · have hu : u < -64 ∨ 64 < u := by omega
    have hs1 : 1 ≤ s := by omega
    have hs2 : s ≤ 4096 := by omega
    clear h hs
    go_enter Try.func46, Try.ntmps46
    go_wp2_with (first
      | (go_at_call 59; with_reducible refine (in_no u _ _ _ hu).mono ?_; rintro e w' ⟨rfl, rfl⟩)
      | (go_at_call 59; with_reducible refine (in_yes s _ _ _ hs1 hs2).mono ?_; rintro e w' ⟨rfl, rfl⟩))
    go_ret2
    exact ⟨rfl, rfl⟩
theorem impl_no (s u : Int) (w : World) (h : s < 1 ∨ 4096 < s ∨ u < -64 ∨ 64 < u) :
    Calls Try.prog 47 #[.int .i64 s, .int .i64 u] w fun e w' => e = .returned (.tuple #[.slice none 0 0, .bool false]) ∧ w = w' := by
  by_cases hs : s < 1 ∨ 4096 < s
  · clear h
    go_enter Try.func47, Try.ntmps47
    go_wp2_with (go_at_call 75; refine (within_no _ _ _ _ hs).mono ?_; rintro e w' ⟨rfl, rfl⟩)
    go_ret2
    exact ⟨rfl, rfl⟩
  · have hu : u < -64 ∨ 64 < u := by omega
    have hs1 : 1 ≤ s := by omega
    have hs2 : s ≤ 4096 := by omega
    clear h hs
    go_enter Try.func47, Try.ntmps47
    go_wp2_with (first
      | (go_at_call 75; refine (within_yes _ _ _ _ hs1 hs2).mono ?_; rintro e w' ⟨rfl, rfl⟩)
      | (go_at_call 58; refine (share_no _ _ hu).mono ?_; rintro e w' ⟨rfl, rfl⟩))
    go_ret2
    exact ⟨rfl, rfl⟩

def twR (s u : Int) : List Int × Bool := if 1 ≤ s ∧ s ≤ 4096 ∧ -64 ≤ u ∧ u ≤ 64 then (tw s u 129, true) else ([], false)
theorem twR_len (s u : Int) : (twR s u).1.length ≤ 129 := by
  unfold twR; split
  · exact tw_len _ _ _
  · exact Nat.zero_le _
theorem spec_c (s u : Int) : GivesI 46 #[.int .i64 s, .int .i64 u] (twR s u).1 (twR s u).2 := by
  intro w
  unfold twR
  by_cases h : 1 ≤ s ∧ s ≤ 4096 ∧ -64 ≤ u ∧ u ≤ 64
  · rw [if_pos h]; exact spec_yes s u w h.1 h.2.1 h.2.2.1 h.2.2.2
  · rw [if_neg h]
    refine (spec_no s u w (by omega)).mono ?_
    rintro e w' ⟨rfl, rfl⟩
    exact ⟨none, 0, rfl, World.ownsRow_nil _ _ _ _, World.grownBy.refl _ _⟩
theorem impl_c (s u : Int) : GivesI 47 #[.int .i64 s, .int .i64 u] (twR s u).1 (twR s u).2 := by
  intro w
  unfold twR
  by_cases h : 1 ≤ s ∧ s ≤ 4096 ∧ -64 ≤ u ∧ u ≤ 64
  · rw [if_pos h]; exact impl_yes s u w h.1 h.2.1 h.2.2.1 h.2.2.2
  · rw [if_neg h]
    refine (impl_no s u w (by omega)).mono ?_
    rintro e w' ⟨rfl, rfl⟩
    exact ⟨none, 0, rfl, World.ownsRow_nil _ _ _ _, World.grownBy.refl _ _⟩

set_option maxHeartbeats 400000 in
set_option maxRecDepth 100000 in
theorem law (s u : Int) (xs : List Int) (ok : Bool) (w : World) (hl : xs.length ≤ 65536) (hs : GivesI 46 #[.int .i64 s, .int .i64 u] xs ok) (hi : GivesI 47 #[.int .i64 s, .int .i64 u] xs ok) :
    Calls Try.prog 13 #[.int .i64 s, .int .i64 u] w fun e w' => e = .returned (.bool true) ∧ Below w.heap.size w w' := by
  have hints := Ints.of xs xs.length (Nat.le_refl _)
  have hlst : ints xs = lst (fun j => (ints xs).getD j undef) xs.length := by rw [← ints_len xs, lst_of]
  have HL := Lib.hid hlst
  clear hlst
  go_enter Try.func13, Try.ntmps13
  go_wp2_with fail
  refine (hs _).mono ?_
  rintro e w1 ⟨A1, c1, rfl, ho1, hg1⟩
  go_wp2_with fail
  refine (hi _).mono ?_
  rintro e w2 ⟨A2, c2, rfl, ho2, hg2⟩
  have R1 := Rd.of_own ho1 (Nat.mul_one _).symm
  have R1b := (R1.kept0 hg2 (Nat.le_refl _)).mono hg2.size
  have R2 := Rd.of_own ho2 (Nat.mul_one _).symm
  go_wp2_with fail
  refine (eqI_true _ _ _ _ _ _ _ _ (by omega) hints R2 R1b).mono ?_
  rintro e w3 ⟨rfl, hg3⟩
  have ho2c := own_kept0 ho2 hg3
  rw [HL.out] at ho2c
  have R1c := R1.kept0 (hg2.trans hg3) (Nat.le_refl _)
  have hsz3 := Nat.le_trans hg2.size hg3.size
  go_wp2_with fail
  refine (markI1 _ _ _ _ _ _ _ (by omega) ho2c).mono ?_
  rintro e w4 ⟨rfl, ho4, hg4⟩
  have R1d := R1c.kept hg4 hsz3 (far_of ho2 (Nat.le_refl _))
  have hsz4 := Nat.le_trans hsz3 hg4.size
  have R4 := Rd.of_lst ho4 (Nat.mul_one _).symm
  go_wp2_with fail
  refine (heldI1 _ _ _ _ _ (by omega) R4).mono ?_
  rintro e w' ⟨rfl, rfl⟩
  go_wp2_with fail
  refine (hi _).mono ?_
  rintro e w5 ⟨A5, c5, rfl, ho5, hg5⟩
  have R5 := Rd.of_own ho5 (Nat.mul_one _).symm
  have R1e := (R1d.kept0 hg5 hsz4).mono (Nat.le_trans hsz4 hg5.size)
  go_wp2_with fail
  refine (eqI_true _ _ _ _ _ _ _ _ (by omega) hints R5 R1e).mono ?_
  rintro e w6 ⟨rfl, hg6⟩
  have R4f := R4.kept0 (hg5.trans hg6) (Nat.le_refl _)
  go_wp2_with fail
  refine (heldI1 _ _ _ _ _ (by omega) R4f).mono ?_
  rintro e w' ⟨rfl, rfl⟩
  go_wp2_with fail
  go_ret
  exact ⟨rfl, gb_below ((gb_new ((hg1.trans hg2).trans hg3) hg4 (base_of ho2 hg1.size)).trans (hg5.trans hg6))⟩

theorem walk (a0 a1 : Int) (w : World) (w0 : (Lit.int .i64 a0).wf = true) (w1 : (Lit.int .i64 a1).wf = true) :
    Calls Try.prog 13 #[.int .i64 a0, .int .i64 a1] w fun e w' => e = .returned (.bool true) ∧ Below w.heap.size w w' :=
  law a0 a1 _ _ w (Nat.le_trans (twR_len a0 a1) (by omega)) (spec_c a0 a1) (impl_c a0 a1)

set_option maxRecDepth 100000 in
theorem lifted (os : Os) (started : os.Started) (H : Type) (enc : TypeId × Value → H) :
    ReturnsInHanded {} Try.checked os 13 .any (Rows.fnExactTwinBeamsSpec.pre6 enc Try.prog Try.f13 Rows.fnExactTwinBeamsRow.domain false) (Rows.fnExactTwinBeamsSpec.post enc Try.prog Try.f13 false true false false) := by
  refine returnsInHanded_of_change (C := Try.checked) own started (by kernel_rfl) Try.func13
    (ChangeSpec.witness6 (enc := enc) (C := Try.checked) false ⟨#[], #[.int .i64 0, .int .i64 0], []⟩ 8 (by kernel_rfl) (by kernel_rfl) (by kernel_rfl) (by kernel_rfl)) ?_
  intro W base args ds gs before hval0 hW hcnd _
  have hval : ∀ (j : Nat) t v, Try.f13.params[j]? = some t → args[j]? = some v → Value.okWide Try.prog W .any base t v := hval0
  have hW' := hW
  obtain ⟨p, q, hA0, hV, rfl, hfz, hnd⟩ := hW
  have hA : DataW.TrodAll enc Try.prog W 0 (fun _ => true) true Try.f13.params.toList args.toList ds p := hA0
  rw [Try.params13] at hA hval
  obtain ⟨v0, vs0, d0, ds0, p0, q0, hargs, rfl, rfl, h0, r0⟩ := trodAll_cons hA
  obtain ⟨v1, vs1, d1, ds1, p1, q1, rfl, rfl, rfl, h1, r1⟩ := trodAll_cons r0
  obtain ⟨rfl, rfl, rfl⟩ := trodAll_nil r1
  obtain rfl : args = #[v0, v1] := by cases args; simp_all
  obtain ⟨rfl, rfl⟩ := trodVars_none hV
  obtain ⟨a0, rfl, rfl, rfl, w0⟩ := open_int Try.underlying2 (hval 0 2 v0 rfl rfl) h0
  obtain ⟨a1, rfl, rfl, rfl, w1⟩ := open_int Try.underlying2 (hval 1 2 v1 rfl rfl) h1
  clear hA0 hval0
  refine (walk a0 a1 W w0 w1).mono fun e W' ⟨he, bel⟩ => ?_
  subst he
  exact ⟨_, rfl, _, _, _, [], _, [], hW', trodAll_mk1 (shut_bool Try.underlying4 _), (trodAll_cons_mk (shut_int Try.underlying2 w0) (trodAll_cons_mk (shut_int Try.underlying2 w1) trodAll_mk0)), rfl, bel.frame _, fun h => by cases h⟩

theorem over : Rows.fnExactTwinBeamsRow.holds Try.pinned (OpenSpec.ofChange Rows.fnExactTwinBeamsSpec) :=
  OpenClaim.holds_of_wide 13 Try.f13 rfl rfl rfl rfl rfl rfl rfl ⟨rfl, rfl, rfl, rfl, rfl⟩ rfl rfl rfl rfl rfl (by kernel_rfl) Try.func13 (by kernel_rfl)
    (of_decide_eq_true (by kernel_rfl)) (by unfold Func.isWrapper; first | (rw [if_pos (by decide +kernel)]; kernel_rfl) | (rw [if_neg (by decide +kernel)]; exact ⟨rfl, rfl⟩))
    (fun os started H enc _ => lifted os started H enc)

theorem proved : Rows.FnExactTwinBeamsSaid := over
#print axioms proved
end Go.Proofs.Ytfenpbnoikgfnab.twinBeams
