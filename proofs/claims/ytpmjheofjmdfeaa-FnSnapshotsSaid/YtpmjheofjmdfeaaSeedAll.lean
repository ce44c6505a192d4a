/- Seeds and draws, by the program and the model. -/
/- Symbols, by the program and the model. -/
/- Noise, by the program and the model. -/
import Derived.Test.YtpmjheofjmdfeaaRows
import Derived.Test.YtpmjheofjmdfeaaSlc
import Derived.Test.YtpmjheofjmdfeaaSmall
import Derived.Test.YtpmjheofjmdfeaaFloatAll
import Derived.Test.YtpmjheofjmdfeaaFWalk
import Derived.WalkKit
import Derived.ProofKit
import Derived.OpenShut
import Derived.ShutString
import Derived.ChangeOld
import Derived.Below
import Derived.Lib.Hide
import Derived.BigQuiet
import Derived.Deep.QuietTactic
import Derived.WalkLawsBesides
import Derived.Outline
import Derived.Deep.LoopGhost
import Derived.Laws.ComplexArith
namespace Go.Proofs.Ytpmjheofjmdfeaa.seeds
open Go.ChangeShapes Go.WideShapes Go.ChangeAt Go.RowKit
open Go.ChangeMaps (open_string shut_string)
set_option linter.unusedVariables false
open Go Go.RowKit
open Go.Proofs.Ytpmjheofjmdfeaa.slc Go.Proofs.Ytpmjheofjmdfeaa.small

/-- The next seed. -/
def sx (s : Int) : Int := (1103515245 * s + 12345) % 2147483648
theorem sx_bd (s : Int) : 0 ≤ sx s ∧ sx s ≤ 2147483647 := by unfold sx; omega
/-- A draw. -/
def dr (s n : Int) : Int := sx (sx ((s + 40503 * n) % 2147483648)) / 65536
theorem dr_bd (s n : Int) : 0 ≤ dr s n ∧ dr s n ≤ 32767 := by
  have := sx_bd (sx ((s + 40503 * n) % 2147483648))
  unfold dr; omega

theorem seed_yes (n : Int) (w : World) (h : 0 ≤ n) (h2 : n ≤ 2147483647) : Calls Try.prog 123 #[.int .i64 n] w fun e w' => e = .returned (.bool true) ∧ w = w' := by
  go_enter Try.func123, Try.ntmps123
  go_wp2_with fail
  refine (within_yes _ _ _ _ h h2).mono ?_
  rintro e w' ⟨rfl, rfl⟩
  go_wp2_with fail
  go_ret
  exact ⟨rfl, rfl⟩
theorem seed_no (n : Int) (w : World) (h : n < 0 ∨ 2147483647 < n) : Calls Try.prog 123 #[.int .i64 n] w fun e w' => e = .returned (.bool false) ∧ w = w' := by
  have H := Lib.hid h
  clear h
  go_enter Try.func123, Try.ntmps123
  go_wp2_with fail
  refine (within_no _ _ _ _ H.out).mono ?_
  rintro e w' ⟨rfl, rfl⟩
  go_wp2_with fail
  go_ret
  exact ⟨rfl, rfl⟩

theorem index_yes (n : Int) (w : World) (h : 0 ≤ n) (h2 : n ≤ 1000000) : Calls Try.prog 124 #[.int .i64 n] w fun e w' => e = .returned (.bool true) ∧ w = w' := by
  go_enter Try.func124, Try.ntmps124
  go_wp2_with fail
  refine (within_yes _ _ _ _ h h2).mono ?_
  rintro e w' ⟨rfl, rfl⟩
  go_wp2_with fail
  go_ret
  exact ⟨rfl, rfl⟩
theorem index_no (n : Int) (w : World) (h : n < 0 ∨ 1000000 < n) : Calls Try.prog 124 #[.int .i64 n] w fun e w' => e = .returned (.bool false) ∧ w = w' := by
  have H := Lib.hid h
  clear h
  go_enter Try.func124, Try.ntmps124
  go_wp2_with fail
  refine (within_no _ _ _ _ H.out).mono ?_
  rintro e w' ⟨rfl, rfl⟩
  go_wp2_with fail
  go_ret
  exact ⟨rfl, rfl⟩

theorem sseed_yes : True := trivial
theorem sseed_no : True := trivial

theorem sindex_yes : True := trivial
theorem sindex_no : True := trivial

theorem after (s : Int) (w : World) (h : 0 ≤ s) (h2 : s ≤ 2147483647) : Calls Try.prog 132 #[.int .i64 s] w fun e w' => e = .returned (.int .i64 (sx s)) ∧ w = w' := by
  go_enter Try.func132, Try.ntmps132
  go_wp2
  go_ret
  exact ⟨rfl, rfl⟩

theorem snext : True := trivial

theorem draw (s n : Int) (w : World) (h : 0 ≤ s) (h2 : s ≤ 2147483647) (h3 : 0 ≤ n) (h4 : n ≤ 40000000) : Calls Try.prog 125 #[.int .i64 s, .int .i64 n] w fun e w' => e = .returned (.int .i64 (dr s n)) ∧ w = w' := by
  have b1 := sx_bd ((s + 40503 * n) % 2147483648)
  have b2 := sx_bd (sx ((s + 40503 * n) % 2147483648))
  have HE := Lib.hid (show sx (sx ((s + 40503 * n) % 2147483648)) / 65536 = dr s n from rfl)
  obtain ⟨m, hm⟩ : ∃ m, m = (s + 40503 * n) % 2147483648 := ⟨_, rfl⟩
  have m0 : 0 ≤ m := by omega
  have m1 : m ≤ 2147483647 := by omega
  go_enter Try.func125, Try.ntmps125
  go_wp2_with fail
  rw [← hm] at b1 b2 HE ⊢
  clear hm
  refine (after m _ m0 m1).mono ?_
  rintro e w' ⟨rfl, rfl⟩
  generalize sx m = y at *
  obtain ⟨y0, y1⟩ := b1
  go_wp2_with fail
  refine (after _ _ y0 y1).mono ?_
  rintro e w' ⟨rfl, rfl⟩
  generalize sx y = x at *
  obtain ⟨x0, x1⟩ := b2
  go_wp2_with fail
  go_ret
  exact ⟨by rw [← HE.out]; rfl, rfl⟩

theorem sdraw : True := trivial

theorem next_i (s : Int) (w : World) : Calls Try.prog 28 #[.int .i64 s] w fun e w' => e = .returned (.tuple #[.int .i64 (if 0 ≤ s ∧ s ≤ 2147483647 then sx s else 0), .bool (decide (0 ≤ s ∧ s ≤ 2147483647))]) ∧ w = w' := by
  by_cases h : 0 ≤ s ∧ s ≤ 2147483647
  · rw [if_pos h, decide_eq_true h]
    obtain ⟨h0, h1⟩ := h
    go_enter Try.func28, Try.ntmps28
    go_wp2_with fail
    refine (seed_yes _ _ h0 h1).mono ?_
    rintro e w' ⟨rfl, rfl⟩
    go_wp2_with fail
    refine (after _ _ h0 h1).mono ?_
    rintro e w' ⟨rfl, rfl⟩
    go_wp2_with fail
    go_ret2
    exact ⟨rfl, rfl⟩
  · rw [if_neg h, decide_eq_false h]
    have H := Lib.hid (show s < 0 ∨ 2147483647 < s by omega)
    clear h
    go_enter Try.func28, Try.ntmps28
    go_wp2_with fail
    refine (seed_no _ _ H.out).mono ?_
    rintro e w' ⟨rfl, rfl⟩
    go_wp2_with fail
    go_ret2
    exact ⟨rfl, rfl⟩

theorem next_s : True := trivial

end Go.Proofs.Ytpmjheofjmdfeaa.seeds

namespace Go.Proofs.Ytpmjheofjmdfeaa.symbol
open Go.ChangeShapes Go.WideShapes Go.ChangeAt Go.RowKit
open Go.ChangeMaps (open_string shut_string)
set_option linter.unusedVariables false
open Go Go.RowKit
open Go.Proofs.Ytpmjheofjmdfeaa.slc Go.Proofs.Ytpmjheofjmdfeaa.small Go.Proofs.Ytpmjheofjmdfeaa.seeds

/-- A part of a symbol. -/
def sy (b : Int) : Nat := if b % 2 = 0 then 1056964608 else 3204448256
theorem sy_0 {b : Int} (h : b % 2 = 0) : sy b = 1056964608 := if_pos h
theorem sy_1 {b : Int} (h : b % 2 = 1) : sy b = 3204448256 := if_neg (by omega)

theorem part (b : Int) (w : World) (h : 0 ≤ b) (h2 : b ≤ 32767) : Calls Try.prog 126 #[.int .i64 b] w fun e w' => e = .returned (.float .f32 (sy b)) ∧ w = w' := by
  rcases (show b % 2 = 0 ∨ b % 2 = 1 by omega) with hb | hb
  · rw [sy_0 hb]
    go_enter Try.func126, Try.ntmps126
    go_wp2
    go_ret
    exact ⟨rfl, rfl⟩
  · rw [sy_1 hb]
    go_enter Try.func126, Try.ntmps126
    go_wp2
    go_ret
    exact ⟨rfl, rfl⟩

theorem sym_i (s i : Int) (w : World) (h : 0 ≤ s) (h2 : s ≤ 2147483647) (h3 : 0 ≤ i) (h4 : i ≤ 1000000) : Calls Try.prog 24 #[.int .i64 s, .int .i64 i] w fun e w' => e = .returned (.tuple #[.complex .f32 (sy (dr s (2 * i) / 16384)) (sy (dr s (2 * i) / 8192)), .bool true]) ∧ w = w' := by
  have b1 := (dr_bd s (2 * i)).1
  have b2 := (dr_bd s (2 * i)).2
  have k0 : 0 ≤ 2 * i := by omega
  have k1 : 2 * i ≤ 40000000 := by omega
  have HD := Lib.hid (fun w => draw s (2 * i) w h h2 k0 k1)
  obtain ⟨d, hd⟩ : ∃ d, d = dr s (2 * i) := ⟨_, rfl⟩
  rw [← hd] at b1 b2 HD ⊢
  clear hd
  go_enter Try.func24, Try.ntmps24
  go_wp2_with fail
  refine (seed_yes _ _ h h2).mono ?_
  rintro e w' ⟨rfl, rfl⟩
  go_wp2_with fail
  refine (index_yes _ _ h3 h4).mono ?_
  rintro e w' ⟨rfl, rfl⟩
  go_wp2_with fail
  refine (HD.out _).mono ?_
  rintro e w' ⟨rfl, rfl⟩
  clear HD
  have q0 : 0 ≤ d / 16384 := by omega
  have q1 : d / 16384 ≤ 32767 := by omega
  have q2 : 0 ≤ d / 8192 := by omega
  have q3 : d / 8192 ≤ 32767 := by omega
  go_wp2_with fail
  refine (part _ _ q0 q1).mono ?_
  rintro e w' ⟨rfl, rfl⟩
  go_wp2_with fail
  refine (part _ _ q2 q3).mono ?_
  rintro e w' ⟨rfl, rfl⟩
  go_wp2_with fail
  go_ret2
  exact ⟨rfl, rfl⟩
theorem symno_i (s i : Int) (w : World) (h : ¬ ((0 ≤ s ∧ s ≤ 2147483647) ∧ (0 ≤ i ∧ i ≤ 1000000))) : Calls Try.prog 24 #[.int .i64 s, .int .i64 i] w fun e w' => e = .returned (.tuple #[.complex .f32 0 0, .bool false]) ∧ w = w' := by
  by_cases hs : 0 ≤ s ∧ s ≤ 2147483647
  · have hi := Lib.hid (show i < 0 ∨ 1000000 < i by omega)
    obtain ⟨s0, s1⟩ := hs
    clear h
    go_enter Try.func24, Try.ntmps24
    go_wp2_with fail
    refine (seed_yes _ _ s0 s1).mono ?_
    rintro e w' ⟨rfl, rfl⟩
    go_wp2_with fail
    refine (index_no _ _ hi.out).mono ?_
    rintro e w' ⟨rfl, rfl⟩
    go_wp2_with fail
    go_ret2
    exact ⟨rfl, rfl⟩
  · have hi := Lib.hid (show s < 0 ∨ 2147483647 < s by omega)
    clear h hs
    go_enter Try.func24, Try.ntmps24
    go_wp2_with fail
    refine (seed_no _ _ hi.out).mono ?_
    rintro e w' ⟨rfl, rfl⟩
    go_wp2_with fail
    go_ret2
    exact ⟨rfl, rfl⟩

theorem sym_l : True := trivial

theorem sym_s : True := trivial
theorem symno_s : True := trivial

end Go.Proofs.Ytpmjheofjmdfeaa.symbol

namespace Go.Proofs.Ytpmjheofjmdfeaa.noise
open Go.ChangeShapes Go.WideShapes Go.ChangeAt Go.RowKit
open Go.ChangeMaps (open_string shut_string)
set_option linter.unusedVariables false
open Go Ieee Go.RowKit
open Go.Proofs.Ytpmjheofjmdfeaa.slc Go.Proofs.Ytpmjheofjmdfeaa.small Go.Proofs.Ytpmjheofjmdfeaa.floats Go.Proofs.Ytpmjheofjmdfeaa.round Go.Proofs.Ytpmjheofjmdfeaa.values Go.Proofs.Ytpmjheofjmdfeaa.conv Go.Proofs.Ytpmjheofjmdfeaa.fWalk Go.Proofs.Ytpmjheofjmdfeaa.seeds

theorem cvi6432 (w : World) (n : Int) : (convert 2 35 (.int .i64 n)).run Try.prog w = .ok (.float .f32 (floatOfInt .f32 n)) w :=
  run_convert_int_float w _ _ .i64 .f32 n (by rw [Try.underlying2]; rfl) Try.underlying35
attribute [local go_sem] run_fmul run_fquo cvi6432

theorem scale_s (a b t : Nat) (w : World) :
    Calls Try.prog 200 #[.complex .f32 a b, .float .f32 t] w fun e w' => ∃ p q, e = .returned (.complex .f32 p q) ∧ can .f32 p = fop .mul .f32 a t ∧ can .f32 q = fop .mul .f32 b t ∧ w.grownBy w' none := by
  go_enter Try.func200, Try.ntmps200
  go_wp2
  go_ret
  exact ⟨_, _, rfl, can_fval _ _ _ _ _, can_fval _ _ _ _ _, gb_drewN _ _ _⟩
theorem scale_i (a b t : Nat) (w : World) :
    Calls Try.prog 33 #[.complex .f32 a b, .float .f32 t] w fun e w' => ∃ p q, e = .returned (.complex .f32 p q) ∧ can .f32 p = fop .mul .f32 a t ∧ can .f32 q = fop .mul .f32 b t ∧ w.grownBy w' none := by
  go_enter Try.func33, Try.ntmps33
  go_wp2
  go_ret
  exact ⟨_, _, rfl, can_fval _ _ _ _ _, can_fval _ _ _ _ _, gb_drewN _ _ _⟩

/-- A part of noise. -/
def np (d : Int) : Nat := fop .quo .f32 (floatOfInt .f32 (d - 16384)) 1182793728
/-- A part of noise, with a level. -/
def nz (d : Int) (t : Nat) : Nat := fop .mul .f32 (np d) t
theorem nz_of {a t : Nat} {d : Int} (h : can .f32 a = np d) : fop .mul .f32 a t = nz d t := by
  unfold nz; rw [← h, fop_can_l]

theorem npart (d : Int) (w : World) (h : 0 ≤ d) (h2 : d ≤ 32767) : Calls Try.prog 135 #[.int .i64 d] w fun e w' => ∃ a, e = .returned (.float .f32 a) ∧ can .f32 a = np d ∧ w.grownBy w' none := by
  go_enter Try.func135, Try.ntmps135
  go_wp2
  go_ret
  exact ⟨_, rfl, can_fval _ _ _ _ _, gb_drewN _ _ _⟩

theorem noise_i (s i el : Int) (t : Nat) (w : World) (h : 0 ≤ s) (h2 : s ≤ 2147483647) (h3 : 0 ≤ i) (h4 : i ≤ 1000000) (h5 : 0 ≤ el) (h6 : el ≤ 15) : Calls Try.prog 31 #[.int .i64 s, .int .i64 i, .int .i64 el, .float .f32 t] w fun e w' => ∃ p q, e = .returned (.tuple #[.complex .f32 p q, .bool true]) ∧ can .f32 p = nz (dr s (2 * (16 * i + el + 1000000))) t ∧ can .f32 q = nz (dr s (2 * (16 * i + el + 1000000) + 1)) t ∧ w.grownBy w' none := by
  have k0 : 0 ≤ 2 * (16 * i + el + 1000000) := by omega
  have k1 : 2 * (16 * i + el + 1000000) ≤ 40000000 := by omega
  have k2 : 0 ≤ 2 * (16 * i + el + 1000000) + 1 := by omega
  have k3 : 2 * (16 * i + el + 1000000) + 1 ≤ 40000000 := by omega
  have b1 := dr_bd s (2 * (16 * i + el + 1000000))
  have b2 := dr_bd s (2 * (16 * i + el + 1000000) + 1)
  have HD1 := Lib.hid (fun w => draw s _ w h h2 k0 k1)
  have HD2 := Lib.hid (fun w => draw s _ w h h2 k2 k3)
  obtain ⟨d1, hd1⟩ : ∃ d, d = dr s (2 * (16 * i + el + 1000000)) := ⟨_, rfl⟩
  obtain ⟨d2, hd2⟩ : ∃ d, d = dr s (2 * (16 * i + el + 1000000) + 1) := ⟨_, rfl⟩
  rw [← hd1] at b1 HD1 ⊢
  rw [← hd2] at b2 HD2 ⊢
  clear hd1 hd2
  clear k0 k1 k2 k3
  go_enter Try.func31, Try.ntmps31
  go_wp2_with fail
  refine (seed_yes _ _ h h2).mono ?_
  rintro e w' ⟨rfl, rfl⟩
  go_wp2_with fail
  refine (index_yes _ _ h3 h4).mono ?_
  rintro e w' ⟨rfl, rfl⟩
  go_wp2_with fail
  refine (within_yes _ _ _ _ h5 h6).mono ?_
  rintro e w' ⟨rfl, rfl⟩
  go_wp2_with fail
  refine (HD1.out _).mono ?_
  rintro e w' ⟨rfl, rfl⟩
  obtain ⟨c0, c1⟩ := b1
  go_wp2_with fail
  refine (npart _ _ c0 c1).mono ?_
  rintro e w1 ⟨a, rfl, ha, g1⟩
  have HA := Lib.hid ha
  clear ha
  go_wp2_with fail
  refine (HD2.out _).mono ?_
  rintro e w' ⟨rfl, rfl⟩
  obtain ⟨c2, c3⟩ := b2
  go_wp2_with fail
  refine (npart _ _ c2 c3).mono ?_
  rintro e w2 ⟨b, rfl, hb, g2⟩
  have HB := Lib.hid hb
  clear hb
  go_wp2_with fail
  refine (scale_i _ _ _ _).mono ?_
  rintro e w3 ⟨p, q, rfl, hp, hq, g3⟩
  have HP := Lib.hid hp
  have HQ := Lib.hid hq
  clear hp hq
  go_wp2_with fail
  go_ret2
  exact ⟨p, q, rfl, by rw [HP.out, nz_of HA.out], by rw [HQ.out, nz_of HB.out], (g1.trans g2).trans g3⟩
theorem noiseno_i (s i el : Int) (t : Nat) (w : World) (h : ¬ ((0 ≤ s ∧ s ≤ 2147483647) ∧ (0 ≤ i ∧ i ≤ 1000000) ∧ (0 ≤ el ∧ el ≤ 15))) : Calls Try.prog 31 #[.int .i64 s, .int .i64 i, .int .i64 el, .float .f32 t] w fun e w' => e = .returned (.tuple #[.complex .f32 0 0, .bool false]) ∧ w = w' := by
  by_cases hs : 0 ≤ s ∧ s ≤ 2147483647
  · by_cases hi : 0 ≤ i ∧ i ≤ 1000000
    · have hx := Lib.hid (show el < 0 ∨ 15 < el by omega)
      obtain ⟨s0, s1⟩ := hs
      obtain ⟨i0, i1⟩ := hi
      clear h
      go_enter Try.func31, Try.ntmps31
      go_wp2_with fail
      refine (seed_yes _ _ s0 s1).mono ?_
      rintro e w' ⟨rfl, rfl⟩
      go_wp2_with fail
      refine (index_yes _ _ i0 i1).mono ?_
      rintro e w' ⟨rfl, rfl⟩
      go_wp2_with fail
      refine (within_no _ _ _ _ hx.out).mono ?_
      rintro e w' ⟨rfl, rfl⟩
      go_wp2_with fail
      go_ret2
      exact ⟨rfl, rfl⟩
    · have hx := Lib.hid (show i < 0 ∨ 1000000 < i by omega)
      obtain ⟨s0, s1⟩ := hs
      clear h hi
      go_enter Try.func31, Try.ntmps31
      go_wp2_with fail
      refine (seed_yes _ _ s0 s1).mono ?_
      rintro e w' ⟨rfl, rfl⟩
      go_wp2_with fail
      refine (index_no _ _ hx.out).mono ?_
      rintro e w' ⟨rfl, rfl⟩
      go_wp2_with fail
      go_ret2
      exact ⟨rfl, rfl⟩
  · have hx := Lib.hid (show s < 0 ∨ 2147483647 < s by omega)
    clear h hs
    go_enter Try.func31, Try.ntmps31
    go_wp2_with fail
    refine (seed_no _ _ hx.out).mono ?_
    rintro e w' ⟨rfl, rfl⟩
    go_wp2_with fail
    go_ret2
    exact ⟨rfl, rfl⟩

theorem noise_l : True := trivial

theorem noise_s : True := trivial
theorem noiseno_s : True := trivial

end Go.Proofs.Ytpmjheofjmdfeaa.noise
