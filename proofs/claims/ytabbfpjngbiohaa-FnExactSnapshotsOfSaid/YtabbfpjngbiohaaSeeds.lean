/- Seeds and draws, by the program and the model. -/
import Derived.Test.YtabbfpjngbiohaaRows
import Derived.Test.YtabbfpjngbiohaaSlc
import Derived.Test.YtabbfpjngbiohaaSmall
import Derived.WalkKit
import Derived.ProofKit
import Derived.OpenShut
import Derived.ShutString
import Derived.ChangeOld
import Derived.Below
import Derived.Lib.Hide
import Derived.BigQuiet
import Derived.Deep.QuietTactic
import Derived.WalkLawsBesides
import Derived.Outline
import Derived.Deep.QuietTactic
import Derived.BigQuiet
import Derived.Deep.LoopGhost
namespace Go.Proofs.Ytabbfpjngbiohaa.seeds
open Go.ChangeShapes Go.WideShapes Go.ChangeAt Go.RowKit
open Go.ChangeMaps (open_string shut_string)
set_option linter.unusedVariables false
open Go Go.RowKit
open Go.Proofs.Ytabbfpjngbiohaa.slc Go.Proofs.Ytabbfpjngbiohaa.small

/-- The next seed. -/
def sx (s : Int) : Int := (1103515245 * s + 12345) % 2147483648
theorem sx_bd (s : Int) : 0 ≤ sx s ∧ sx s ≤ 2147483647 := by unfold sx; omega
/-- A draw. -/
def dr (s n : Int) : Int := sx (sx ((s + 40503 * n) % 2147483648)) / 65536
theorem dr_bd (s n : Int) : 0 ≤ dr s n ∧ dr s n ≤ 32767 := by
  have := sx_bd (sx ((s + 40503 * n) % 2147483648))
  unfold dr; omega

theorem seed_yes (n : Int) (w : World) (h : 0 ≤ n) (h2 : n ≤ 2147483647) : Calls Try.prog 113 #[.int .i64 n] w fun e w' => e = .returned (.bool true) ∧ w = w' := by
  go_enter Try.func113, Try.ntmps113
  go_wp2_with fail
  refine (within_yes _ _ _ _ h h2).mono ?_
  rintro e w' ⟨rfl, rfl⟩
  go_wp2_with fail
  go_ret
  exact ⟨rfl, rfl⟩
theorem seed_no (n : Int) (w : World) (h : n < 0 ∨ 2147483647 < n) : Calls Try.prog 113 #[.int .i64 n] w fun e w' => e = .returned (.bool false) ∧ w = w' := by
  have H := Lib.hid h
  clear h
  go_enter Try.func113, Try.ntmps113
  go_wp2_with fail
  refine (within_no _ _ _ _ H.out).mono ?_
  rintro e w' ⟨rfl, rfl⟩
  go_wp2_with fail
  go_ret
  exact ⟨rfl, rfl⟩

theorem index_yes (n : Int) (w : World) (h : 0 ≤ n) (h2 : n ≤ 1000000) : Calls Try.prog 117 #[.int .i64 n] w fun e w' => e = .returned (.bool true) ∧ w = w' := by
  go_enter Try.func117, Try.ntmps117
  go_wp2_with fail
  refine (within_yes _ _ _ _ h h2).mono ?_
  rintro e w' ⟨rfl, rfl⟩
  go_wp2_with fail
  go_ret
  exact ⟨rfl, rfl⟩
theorem index_no (n : Int) (w : World) (h : n < 0 ∨ 1000000 < n) : Calls Try.prog 117 #[.int .i64 n] w fun e w' => e = .returned (.bool false) ∧ w = w' := by
  have H := Lib.hid h
  clear h
  go_enter Try.func117, Try.ntmps117
  go_wp2_with fail
  refine (within_no _ _ _ _ H.out).mono ?_
  rintro e w' ⟨rfl, rfl⟩
  go_wp2_with fail
  go_ret
  exact ⟨rfl, rfl⟩

theorem sseed_yes (n : Int) (w : World) (h : 0 ≤ n) (h2 : n ≤ 2147483647) : Calls Try.prog 111 #[.int .i64 n] w fun e w' => e = .returned (.bool true) ∧ w = w' := by
  go_enter Try.func111, Try.ntmps111
  go_wp2_with fail
  refine (in_yes _ _ _ _ h h2).mono ?_
  rintro e w' ⟨rfl, rfl⟩
  go_wp2_with fail
  go_ret
  exact ⟨rfl, rfl⟩
theorem sseed_no (n : Int) (w : World) (h : n < 0 ∨ 2147483647 < n) : Calls Try.prog 111 #[.int .i64 n] w fun e w' => e = .returned (.bool false) ∧ w = w' := by
  have H := Lib.hid h
  clear h
  go_enter Try.func111, Try.ntmps111
  go_wp2_with fail
  refine (in_no _ _ _ _ H.out).mono ?_
  rintro e w' ⟨rfl, rfl⟩
  go_wp2_with fail
  go_ret
  exact ⟨rfl, rfl⟩

theorem sindex_yes (n : Int) (w : World) (h : 0 ≤ n) (h2 : n ≤ 1000000) : Calls Try.prog 115 #[.int .i64 n] w fun e w' => e = .returned (.bool true) ∧ w = w' := by
  go_enter Try.func115, Try.ntmps115
  go_wp2_with fail
  refine (in_yes _ _ _ _ h h2).mono ?_
  rintro e w' ⟨rfl, rfl⟩
  go_wp2_with fail
  go_ret
  exact ⟨rfl, rfl⟩
theorem sindex_no (n : Int) (w : World) (h : n < 0 ∨ 1000000 < n) : Calls Try.prog 115 #[.int .i64 n] w fun e w' => e = .returned (.bool false) ∧ w = w' := by
  have H := Lib.hid h
  clear h
  go_enter Try.func115, Try.ntmps115
  go_wp2_with fail
  refine (in_no _ _ _ _ H.out).mono ?_
  rintro e w' ⟨rfl, rfl⟩
  go_wp2_with fail
  go_ret
  exact ⟨rfl, rfl⟩

theorem after (s : Int) (w : World) (h : 0 ≤ s) (h2 : s ≤ 2147483647) : Calls Try.prog 114 #[.int .i64 s] w fun e w' => e = .returned (.int .i64 (sx s)) ∧ w = w' := by
  go_enter Try.func114, Try.ntmps114
  go_wp2
  go_ret
  exact ⟨rfl, rfl⟩

theorem snext (s : Int) (w : World) (h : 0 ≤ s) (h2 : s ≤ 2147483647) : Calls Try.prog 112 #[.int .i64 s] w fun e w' => e = .returned (.int .i64 (sx s)) ∧ w = w' := by
  go_enter Try.func112, Try.ntmps112
  go_wp2
  go_ret
  exact ⟨rfl, rfl⟩

theorem draw (s n : Int) (w : World) (h : 0 ≤ s) (h2 : s ≤ 2147483647) (h3 : 0 ≤ n) (h4 : n ≤ 40000000) : Calls Try.prog 118 #[.int .i64 s, .int .i64 n] w fun e w' => e = .returned (.int .i64 (dr s n)) ∧ w = w' := by
  have b1 := sx_bd ((s + 40503 * n) % 2147483648)
  have b2 := sx_bd (sx ((s + 40503 * n) % 2147483648))
  have HE := Lib.hid (show sx (sx ((s + 40503 * n) % 2147483648)) / 65536 = dr s n from rfl)
  obtain ⟨m, hm⟩ : ∃ m, m = (s + 40503 * n) % 2147483648 := ⟨_, rfl⟩
  have m0 : 0 ≤ m := by omega
  have m1 : m ≤ 2147483647 := by omega
  go_enter Try.func118, Try.ntmps118
  go_wp2_with fail
  rw [← hm] at b1 b2 HE ⊢
  clear hm
  refine (after m _ m0 m1).mono ?_
  rintro e w' ⟨rfl, rfl⟩
  generalize sx m = y at *
  obtain ⟨y0, y1⟩ := b1
  go_wp2_with fail
  refine (after _ _ y0 y1).mono ?_
  rintro e w' ⟨rfl, rfl⟩
  generalize sx y = x at *
  obtain ⟨x0, x1⟩ := b2
  go_wp2_with fail
  go_ret
  exact ⟨by rw [← HE.out]; rfl, rfl⟩

theorem sdraw (s n : Int) (w : World) (h : 0 ≤ s) (h2 : s ≤ 2147483647) (h3 : 0 ≤ n) (h4 : n ≤ 40000000) : Calls Try.prog 180 #[.int .i64 s, .int .i64 n] w fun e w' => e = .returned (.int .i64 (dr s n)) ∧ w = w' := by
  have b1 := sx_bd ((s + 40503 * n) % 2147483648)
  have b2 := sx_bd (sx ((s + 40503 * n) % 2147483648))
  have HE := Lib.hid (show sx (sx ((s + 40503 * n) % 2147483648)) / 65536 = dr s n from rfl)
  obtain ⟨m, hm⟩ : ∃ m, m = (s + 40503 * n) % 2147483648 := ⟨_, rfl⟩
  have m0 : 0 ≤ m := by omega
  have m1 : m ≤ 2147483647 := by omega
  go_enter Try.func180, Try.ntmps180
  go_wp2_with fail
  rw [← hm] at b1 b2 HE ⊢
  clear hm
  refine (snext m _ m0 m1).mono ?_
  rintro e w' ⟨rfl, rfl⟩
  generalize sx m = y at *
  obtain ⟨y0, y1⟩ := b1
  go_wp2_with fail
  refine (snext _ _ y0 y1).mono ?_
  rintro e w' ⟨rfl, rfl⟩
  generalize sx y = x at *
  obtain ⟨x0, x1⟩ := b2
  go_wp2_with fail
  go_ret
  exact ⟨by rw [← HE.out]; rfl, rfl⟩

theorem next_i (s : Int) (w : World) : Calls Try.prog 31 #[.int .i64 s] w fun e w' => e = .returned (.tuple #[.int .i64 (if 0 ≤ s ∧ s ≤ 2147483647 then sx s else 0), .bool (decide (0 ≤ s ∧ s ≤ 2147483647))]) ∧ w = w' := by
  by_cases h : 0 ≤ s ∧ s ≤ 2147483647
  · rw [if_pos h, decide_eq_true h]
    obtain ⟨h0, h1⟩ := h
    go_enter Try.func31, Try.ntmps31
    go_wp2_with fail
    refine (seed_yes _ _ h0 h1).mono ?_
    rintro e w' ⟨rfl, rfl⟩
    go_wp2_with fail
    refine (after _ _ h0 h1).mono ?_
    rintro e w' ⟨rfl, rfl⟩
    go_wp2_with fail
    go_ret2
    exact ⟨rfl, rfl⟩
  · rw [if_neg h, decide_eq_false h]
    have H := Lib.hid (show s < 0 ∨ 2147483647 < s by omega)
    clear h
    go_enter Try.func31, Try.ntmps31
    go_wp2_with fail
    refine (seed_no _ _ H.out).mono ?_
    rintro e w' ⟨rfl, rfl⟩
    go_wp2_with fail
    go_ret2
    exact ⟨rfl, rfl⟩

theorem next_s (s : Int) (w : World) : Calls Try.prog 30 #[.int .i64 s] w fun e w' => e = .returned (.tuple #[.int .i64 (if 0 ≤ s ∧ s ≤ 2147483647 then sx s else 0), .bool (decide (0 ≤ s ∧ s ≤ 2147483647))]) ∧ w = w' := by
  by_cases h : 0 ≤ s ∧ s ≤ 2147483647
  · rw [if_pos h, decide_eq_true h]
    obtain ⟨h0, h1⟩ := h
    go_enter Try.func30, Try.ntmps30
    go_wp2_with fail
    refine (sseed_yes _ _ h0 h1).mono ?_
    rintro e w' ⟨rfl, rfl⟩
    go_wp2_with fail
    refine (snext _ _ h0 h1).mono ?_
    rintro e w' ⟨rfl, rfl⟩
    go_wp2_with fail
    go_ret2
    exact ⟨rfl, rfl⟩
  · rw [if_neg h, decide_eq_false h]
    have H := Lib.hid (show s < 0 ∨ 2147483647 < s by omega)
    clear h
    go_enter Try.func30, Try.ntmps30
    go_wp2_with fail
    refine (sseed_no _ _ H.out).mono ?_
    rintro e w' ⟨rfl, rfl⟩
    go_wp2_with fail
    go_ret2
    exact ⟨rfl, rfl⟩

end Go.Proofs.Ytabbfpjngbiohaa.seeds
