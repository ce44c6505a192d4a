/- Symbols, by the program and the model. -/
import Derived.Test.YtabbfpjngbiohaaRows
import Derived.Test.YtabbfpjngbiohaaSlc
import Derived.Test.YtabbfpjngbiohaaSmall
import Derived.Test.YtabbfpjngbiohaaSeeds
import Derived.WalkKit
import Derived.ProofKit
import Derived.OpenShut
import Derived.ShutString
import Derived.ChangeOld
import Derived.Below
import Derived.Lib.Hide
import Derived.BigQuiet
import Derived.Deep.QuietTactic
import Derived.WalkLawsBesides
import Derived.Outline
import Derived.Deep.QuietTactic
import Derived.BigQuiet
import Derived.Deep.LoopGhost
namespace Go.Proofs.Ytabbfpjngbiohaa.symbol
open Go.ChangeShapes Go.WideShapes Go.ChangeAt Go.RowKit
open Go.ChangeMaps (open_string shut_string)
set_option linter.unusedVariables false
open Go Go.RowKit
open Go.Proofs.Ytabbfpjngbiohaa.slc Go.Proofs.Ytabbfpjngbiohaa.small Go.Proofs.Ytabbfpjngbiohaa.seeds

/-- A part of a symbol. -/
def sy (b : Int) : Nat := if b % 2 = 0 then 1056964608 else 3204448256
theorem sy_0 {b : Int} (h : b % 2 = 0) : sy b = 1056964608 := if_pos h
theorem sy_1 {b : Int} (h : b % 2 = 1) : sy b = 3204448256 := if_neg (by omega)

theorem part (b : Int) (w : World) (h : 0 ≤ b) (h2 : b ≤ 32767) : Calls Try.prog 119 #[.int .i64 b] w fun e w' => e = .returned (.float .f32 (sy b)) ∧ w = w' := by
  rcases (show b % 2 = 0 ∨ b % 2 = 1 by omega) with hb | hb
  · rw [sy_0 hb]
    go_enter Try.func119, Try.ntmps119
    go_wp2
    go_ret
    exact ⟨rfl, rfl⟩
  · rw [sy_1 hb]
    go_enter Try.func119, Try.ntmps119
    go_wp2
    go_ret
    exact ⟨rfl, rfl⟩

theorem sym_i (s i : Int) (w : World) (h : 0 ≤ s) (h2 : s ≤ 2147483647) (h3 : 0 ≤ i) (h4 : i ≤ 1000000) : Calls Try.prog 33 #[.int .i64 s, .int .i64 i] w fun e w' => e = .returned (.tuple #[.complex .f32 (sy (dr s (2 * i) / 16384)) (sy (dr s (2 * i) / 8192)), .bool true]) ∧ w = w' := by
  have b1 := (dr_bd s (2 * i)).1
  have b2 := (dr_bd s (2 * i)).2
  have k0 : 0 ≤ 2 * i := by omega
  have k1 : 2 * i ≤ 40000000 := by omega
  have HD := Lib.hid (fun w => draw s (2 * i) w h h2 k0 k1)
  obtain ⟨d, hd⟩ : ∃ d, d = dr s (2 * i) := ⟨_, rfl⟩
  rw [← hd] at b1 b2 HD ⊢
  clear hd
  go_enter Try.func33, Try.ntmps33
  go_wp2_with fail
  refine (seed_yes _ _ h h2).mono ?_
  rintro e w' ⟨rfl, rfl⟩
  go_wp2_with fail
  refine (index_yes _ _ h3 h4).mono ?_
  rintro e w' ⟨rfl, rfl⟩
  go_wp2_with fail
  refine (HD.out _).mono ?_
  rintro e w' ⟨rfl, rfl⟩
  clear HD
  have q0 : 0 ≤ d / 16384 := by omega
  have q1 : d / 16384 ≤ 32767 := by omega
  have q2 : 0 ≤ d / 8192 := by omega
  have q3 : d / 8192 ≤ 32767 := by omega
  go_wp2_with fail
  refine (part _ _ q0 q1).mono ?_
  rintro e w' ⟨rfl, rfl⟩
  go_wp2_with fail
  refine (part _ _ q2 q3).mono ?_
  rintro e w' ⟨rfl, rfl⟩
  go_wp2_with fail
  go_ret2
  exact ⟨rfl, rfl⟩
theorem symno_i (s i : Int) (w : World) (h : ¬ ((0 ≤ s ∧ s ≤ 2147483647) ∧ (0 ≤ i ∧ i ≤ 1000000))) : Calls Try.prog 33 #[.int .i64 s, .int .i64 i] w fun e w' => e = .returned (.tuple #[.complex .f32 0 0, .bool false]) ∧ w = w' := by
  by_cases hs : 0 ≤ s ∧ s ≤ 2147483647
  · have hi := Lib.hid (show i < 0 ∨ 1000000 < i by omega)
    obtain ⟨s0, s1⟩ := hs
    clear h
    go_enter Try.func33, Try.ntmps33
    go_wp2_with fail
    refine (seed_yes _ _ s0 s1).mono ?_
    rintro e w' ⟨rfl, rfl⟩
    go_wp2_with fail
    refine (index_no _ _ hi.out).mono ?_
    rintro e w' ⟨rfl, rfl⟩
    go_wp2_with fail
    go_ret2
    exact ⟨rfl, rfl⟩
  · have hi := Lib.hid (show s < 0 ∨ 2147483647 < s by omega)
    clear h hs
    go_enter Try.func33, Try.ntmps33
    go_wp2_with fail
    refine (seed_no _ _ hi.out).mono ?_
    rintro e w' ⟨rfl, rfl⟩
    go_wp2_with fail
    go_ret2
    exact ⟨rfl, rfl⟩

theorem sym_l (s i : Int) (w : World) (h : 0 ≤ s) (h2 : s ≤ 2147483647) (h3 : 0 ≤ i) (h4 : i ≤ 1000000) : Calls Try.prog 116 #[.int .i64 s, .int .i64 i] w fun e w' => e = .returned (.complex .f32 (sy (dr s (2 * i) / 16384)) (sy (dr s (2 * i) / 8192))) ∧ w = w' := by
  have b1 := (dr_bd s (2 * i)).1
  have b2 := (dr_bd s (2 * i)).2
  have k0 : 0 ≤ 2 * i := by omega
  have k1 : 2 * i ≤ 40000000 := by omega
  have HD := Lib.hid (fun w => sdraw s (2 * i) w h h2 k0 k1)
  obtain ⟨d, hd⟩ : ∃ d, d = dr s (2 * i) := ⟨_, rfl⟩
  rw [← hd] at b1 b2 ⊢
  have HDD := Lib.hid hd
  clear hd
  rcases (show d / 16384 % 2 = 0 ∨ d / 16384 % 2 = 1 by omega) with p | p
  all_goals rcases (show d / 8192 % 2 = 0 ∨ d / 8192 % 2 = 1 by omega) with q | q
  all_goals
    go_enter Try.func116, Try.ntmps116
    go_wp2_with fail
    refine (HD.out _).mono ?_
    rintro e w' ⟨rfl, rfl⟩
    rw [← HDD.out]
    go_wp2_with fail
    go_ret
    exact ⟨by first | (rw [sy_0 p, sy_0 q]; rfl) | (rw [sy_0 p, sy_1 q]; rfl) | (rw [sy_1 p, sy_0 q]; rfl) | (rw [sy_1 p, sy_1 q]; rfl), rfl⟩

theorem sym_s (s i : Int) (w : World) (h : 0 ≤ s) (h2 : s ≤ 2147483647) (h3 : 0 ≤ i) (h4 : i ≤ 1000000) : Calls Try.prog 32 #[.int .i64 s, .int .i64 i] w fun e w' => e = .returned (.tuple #[.complex .f32 (sy (dr s (2 * i) / 16384)) (sy (dr s (2 * i) / 8192)), .bool true]) ∧ w = w' := by
  have HD := Lib.hid (fun w => sym_l s i w h h2 h3 h4)
  go_enter Try.func32, Try.ntmps32
  go_wp2_with fail
  refine (sseed_yes _ _ h h2).mono ?_
  rintro e w' ⟨rfl, rfl⟩
  go_wp2_with fail
  refine (sindex_yes _ _ h3 h4).mono ?_
  rintro e w' ⟨rfl, rfl⟩
  go_wp2_with fail
  refine (HD.out _).mono ?_
  rintro e w' ⟨rfl, rfl⟩
  go_wp2_with fail
  go_ret2
  exact ⟨rfl, rfl⟩
theorem symno_s (s i : Int) (w : World) (h : ¬ ((0 ≤ s ∧ s ≤ 2147483647) ∧ (0 ≤ i ∧ i ≤ 1000000))) : Calls Try.prog 32 #[.int .i64 s, .int .i64 i] w fun e w' => e = .returned (.tuple #[.complex .f32 0 0, .bool false]) ∧ w = w' := by
  by_cases hs : 0 ≤ s ∧ s ≤ 2147483647
  · have hi := Lib.hid (show i < 0 ∨ 1000000 < i by omega)
    obtain ⟨s0, s1⟩ := hs
    clear h
    go_enter Try.func32, Try.ntmps32
    go_wp2_with fail
    refine (sseed_yes _ _ s0 s1).mono ?_
    rintro e w' ⟨rfl, rfl⟩
    go_wp2_with fail
    refine (sindex_no _ _ hi.out).mono ?_
    rintro e w' ⟨rfl, rfl⟩
    go_wp2_with fail
    go_ret2
    exact ⟨rfl, rfl⟩
  · have hi := Lib.hid (show s < 0 ∨ 2147483647 < s by omega)
    clear h hs
    go_enter Try.func32, Try.ntmps32
    go_wp2_with fail
    refine (sseed_no _ _ hi.out).mono ?_
    rintro e w' ⟨rfl, rfl⟩
    go_wp2_with fail
    go_ret2
    exact ⟨rfl, rfl⟩

end Go.Proofs.Ytabbfpjngbiohaa.symbol
