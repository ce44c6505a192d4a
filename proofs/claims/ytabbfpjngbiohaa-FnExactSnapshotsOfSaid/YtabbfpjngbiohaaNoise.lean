/- Noise, by the program and the model. -/
import Derived.Test.YtabbfpjngbiohaaRows
import Derived.Test.YtabbfpjngbiohaaSlc
import Derived.Test.YtabbfpjngbiohaaSmall
import Derived.Test.YtabbfpjngbiohaaFloats
import Derived.Test.YtabbfpjngbiohaaRound
import Derived.Test.YtabbfpjngbiohaaValues
import Derived.Test.YtabbfpjngbiohaaConv
import Derived.Test.YtabbfpjngbiohaaFWalk
import Derived.Test.YtabbfpjngbiohaaSeeds
import Derived.WalkKit
import Derived.ProofKit
import Derived.OpenShut
import Derived.ShutString
import Derived.ChangeOld
import Derived.Below
import Derived.Lib.Hide
import Derived.BigQuiet
import Derived.Deep.QuietTactic
import Derived.WalkLawsBesides
import Derived.Outline
import Derived.Deep.QuietTactic
import Derived.BigQuiet
import Derived.Deep.LoopGhost
import Derived.Laws.ComplexArith
namespace Go.Proofs.Ytabbfpjngbiohaa.noise
open Go.ChangeShapes Go.WideShapes Go.ChangeAt Go.RowKit
open Go.ChangeMaps (open_string shut_string)
set_option linter.unusedVariables false
open Go Ieee Go.RowKit
open Go.Proofs.Ytabbfpjngbiohaa.slc Go.Proofs.Ytabbfpjngbiohaa.small Go.Proofs.Ytabbfpjngbiohaa.floats Go.Proofs.Ytabbfpjngbiohaa.round Go.Proofs.Ytabbfpjngbiohaa.values Go.Proofs.Ytabbfpjngbiohaa.conv Go.Proofs.Ytabbfpjngbiohaa.fWalk Go.Proofs.Ytabbfpjngbiohaa.seeds

theorem cvi6432 (w : World) (n : Int) : (convert 2 29 (.int .i64 n)).run Try.prog w = .ok (.float .f32 (floatOfInt .f32 n)) w :=
  run_convert_int_float w _ _ .i64 .f32 n (by rw [Try.underlying2]; rfl) Try.underlying29
attribute [local go_sem] run_fmul run_fquo cvi6432

theorem scale_s (a b t : Nat) (w : World) :
    Calls Try.prog 181 #[.complex .f32 a b, .float .f32 t] w fun e w' => ∃ p q, e = .returned (.complex .f32 p q) ∧ can .f32 p = fop .mul .f32 a t ∧ can .f32 q = fop .mul .f32 b t ∧ w.grownBy w' none := by
  go_enter Try.func181, Try.ntmps181
  go_wp2
  go_ret
  exact ⟨_, _, rfl, can_fval _ _ _ _ _, can_fval _ _ _ _ _, gb_drewN _ _ _⟩
theorem scale_i (a b t : Nat) (w : World) :
    Calls Try.prog 123 #[.complex .f32 a b, .float .f32 t] w fun e w' => ∃ p q, e = .returned (.complex .f32 p q) ∧ can .f32 p = fop .mul .f32 a t ∧ can .f32 q = fop .mul .f32 b t ∧ w.grownBy w' none := by
  go_enter Try.func123, Try.ntmps123
  go_wp2
  go_ret
  exact ⟨_, _, rfl, can_fval _ _ _ _ _, can_fval _ _ _ _ _, gb_drewN _ _ _⟩

/-- A part of noise. -/
def np (d : Int) : Nat := fop .quo .f32 (floatOfInt .f32 (d - 16384)) 1182793728
/-- A part of noise, with a level. -/
def nz (d : Int) (t : Nat) : Nat := fop .mul .f32 (np d) t
theorem nz_of {a t : Nat} {d : Int} (h : can .f32 a = np d) : fop .mul .f32 a t = nz d t := by
  unfold nz; rw [← h, fop_can_l]

theorem npart (d : Int) (w : World) (h : 0 ≤ d) (h2 : d ≤ 32767) : Calls Try.prog 124 #[.int .i64 d] w fun e w' => ∃ a, e = .returned (.float .f32 a) ∧ can .f32 a = np d ∧ w.grownBy w' none := by
  go_enter Try.func124, Try.ntmps124
  go_wp2
  go_ret
  exact ⟨_, rfl, can_fval _ _ _ _ _, gb_drewN _ _ _⟩

theorem noise_i (s i el : Int) (t : Nat) (w : World) (h : 0 ≤ s) (h2 : s ≤ 2147483647) (h3 : 0 ≤ i) (h4 : i ≤ 1000000) (h5 : 0 ≤ el) (h6 : el ≤ 15) : Calls Try.prog 36 #[.int .i64 s, .int .i64 i, .int .i64 el, .float .f32 t] w fun e w' => ∃ p q, e = .returned (.tuple #[.complex .f32 p q, .bool true]) ∧ can .f32 p = nz (dr s (2 * (16 * i + el + 1000000))) t ∧ can .f32 q = nz (dr s (2 * (16 * i + el + 1000000) + 1)) t ∧ w.grownBy w' none := by
  have k0 : 0 ≤ 2 * (16 * i + el + 1000000) := by omega
  have k1 : 2 * (16 * i + el + 1000000) ≤ 40000000 := by omega
  have k2 : 0 ≤ 2 * (16 * i + el + 1000000) + 1 := by omega
  have k3 : 2 * (16 * i + el + 1000000) + 1 ≤ 40000000 := by omega
  have b1 := dr_bd s (2 * (16 * i + el + 1000000))
  have b2 := dr_bd s (2 * (16 * i + el + 1000000) + 1)
  have HD1 := Lib.hid (fun w => draw s _ w h h2 k0 k1)
  have HD2 := Lib.hid (fun w => draw s _ w h h2 k2 k3)
  obtain ⟨d1, hd1⟩ : ∃ d, d = dr s (2 * (16 * i + el + 1000000)) := ⟨_, rfl⟩
  obtain ⟨d2, hd2⟩ : ∃ d, d = dr s (2 * (16 * i + el + 1000000) + 1) := ⟨_, rfl⟩
  rw [← hd1] at b1 HD1 ⊢
  rw [← hd2] at b2 HD2 ⊢
  clear hd1 hd2
  clear k0 k1 k2 k3
  go_enter Try.func36, Try.ntmps36
  go_wp2_with fail
  refine (seed_yes _ _ h h2).mono ?_
  rintro e w' ⟨rfl, rfl⟩
  go_wp2_with fail
  refine (index_yes _ _ h3 h4).mono ?_
  rintro e w' ⟨rfl, rfl⟩
  go_wp2_with fail
  refine (within_yes _ _ _ _ h5 h6).mono ?_
  rintro e w' ⟨rfl, rfl⟩
  go_wp2_with fail
  refine (HD1.out _).mono ?_
  rintro e w' ⟨rfl, rfl⟩
  obtain ⟨c0, c1⟩ := b1
  go_wp2_with fail
  refine (npart _ _ c0 c1).mono ?_
  rintro e w1 ⟨a, rfl, ha, g1⟩
  have HA := Lib.hid ha
  clear ha
  go_wp2_with fail
  refine (HD2.out _).mono ?_
  rintro e w' ⟨rfl, rfl⟩
  obtain ⟨c2, c3⟩ := b2
  go_wp2_with fail
  refine (npart _ _ c2 c3).mono ?_
  rintro e w2 ⟨b, rfl, hb, g2⟩
  have HB := Lib.hid hb
  clear hb
  go_wp2_with fail
  refine (scale_i _ _ _ _).mono ?_
  rintro e w3 ⟨p, q, rfl, hp, hq, g3⟩
  have HP := Lib.hid hp
  have HQ := Lib.hid hq
  clear hp hq
  go_wp2_with fail
  go_ret2
  exact ⟨p, q, rfl, by rw [HP.out, nz_of HA.out], by rw [HQ.out, nz_of HB.out], (g1.trans g2).trans g3⟩
theorem noiseno_i (s i el : Int) (t : Nat) (w : World) (h : ¬ ((0 ≤ s ∧ s ≤ 2147483647) ∧ (0 ≤ i ∧ i ≤ 1000000) ∧ (0 ≤ el ∧ el ≤ 15))) : Calls Try.prog 36 #[.int .i64 s, .int .i64 i, .int .i64 el, .float .f32 t] w fun e w' => e = .returned (.tuple #[.complex .f32 0 0, .bool false]) ∧ w = w' := by
  by_cases hs : 0 ≤ s ∧ s ≤ 2147483647
  · by_cases hi : 0 ≤ i ∧ i ≤ 1000000
    · have hx := Lib.hid (show el < 0 ∨ 15 < el by omega)
      obtain ⟨s0, s1⟩ := hs
      obtain ⟨i0, i1⟩ := hi
      clear h
      go_enter Try.func36, Try.ntmps36
      go_wp2_with fail
      refine (seed_yes _ _ s0 s1).mono ?_
      rintro e w' ⟨rfl, rfl⟩
      go_wp2_with fail
      refine (index_yes _ _ i0 i1).mono ?_
      rintro e w' ⟨rfl, rfl⟩
      go_wp2_with fail
      refine (within_no _ _ _ _ hx.out).mono ?_
      rintro e w' ⟨rfl, rfl⟩
      go_wp2_with fail
      go_ret2
      exact ⟨rfl, rfl⟩
    · have hx := Lib.hid (show i < 0 ∨ 1000000 < i by omega)
      obtain ⟨s0, s1⟩ := hs
      clear h hi
      go_enter Try.func36, Try.ntmps36
      go_wp2_with fail
      refine (seed_yes _ _ s0 s1).mono ?_
      rintro e w' ⟨rfl, rfl⟩
      go_wp2_with fail
      refine (index_no _ _ hx.out).mono ?_
      rintro e w' ⟨rfl, rfl⟩
      go_wp2_with fail
      go_ret2
      exact ⟨rfl, rfl⟩
  · have hx := Lib.hid (show s < 0 ∨ 2147483647 < s by omega)
    clear h hs
    go_enter Try.func36, Try.ntmps36
    go_wp2_with fail
    refine (seed_no _ _ hx.out).mono ?_
    rintro e w' ⟨rfl, rfl⟩
    go_wp2_with fail
    go_ret2
    exact ⟨rfl, rfl⟩

theorem noise_l (s i el : Int) (t : Nat) (w : World) (h : 0 ≤ s) (h2 : s ≤ 2147483647) (h3 : 0 ≤ i) (h4 : i ≤ 1000000) (h5 : 0 ≤ el) (h6 : el ≤ 15) : Calls Try.prog 122 #[.int .i64 s, .int .i64 i, .int .i64 el, .float .f32 t] w fun e w' => ∃ p q, e = .returned (.complex .f32 p q) ∧ can .f32 p = nz (dr s (2 * (16 * i + el + 1000000))) t ∧ can .f32 q = nz (dr s (2 * (16 * i + el + 1000000) + 1)) t ∧ w.grownBy w' none := by
  have k0 : 0 ≤ 2 * (16 * i + el + 1000000) := by omega
  have k1 : 2 * (16 * i + el + 1000000) ≤ 40000000 := by omega
  have k2 : 0 ≤ 2 * (16 * i + el + 1000000) + 1 := by omega
  have k3 : 2 * (16 * i + el + 1000000) + 1 ≤ 40000000 := by omega
  have b1 := dr_bd s (2 * (16 * i + el + 1000000))
  have b2 := dr_bd s (2 * (16 * i + el + 1000000) + 1)
  have HD1 := Lib.hid (fun w => sdraw s _ w h h2 k0 k1)
  have HD2 := Lib.hid (fun w => sdraw s _ w h h2 k2 k3)
  obtain ⟨d1, hd1⟩ : ∃ d, d = dr s (2 * (16 * i + el + 1000000)) := ⟨_, rfl⟩
  obtain ⟨d2, hd2⟩ : ∃ d, d = dr s (2 * (16 * i + el + 1000000) + 1) := ⟨_, rfl⟩
  rw [← hd1] at b1 HD1 ⊢
  rw [← hd2] at b2 HD2 ⊢
  clear hd1 hd2
  clear k0 k1 k2 k3
  go_enter Try.func122, Try.ntmps122
  go_wp2_with fail
  refine (HD1.out _).mono ?_
  rintro e w' ⟨rfl, rfl⟩
  obtain ⟨c0, c1⟩ := b1
  go_wp2_with fail
  refine (HD2.out _).mono ?_
  rintro e w' ⟨rfl, rfl⟩
  obtain ⟨c2, c3⟩ := b2
  go_wp2_with fail
  refine (scale_s _ _ _ _).mono ?_
  rintro e w3 ⟨p, q, rfl, hp, hq, g3⟩
  have HP := Lib.hid hp
  have HQ := Lib.hid hq
  clear hp hq
  go_wp2_with fail
  go_ret
  exact ⟨p, q, rfl, by rw [HP.out]; exact nz_of (can_fval _ _ _ _ _), by rw [HQ.out]; exact nz_of (can_fval _ _ _ _ _), by first | exact ((gb_drewN _ _ _).trans (gb_drewN _ _ _)).trans g3 | exact (gb_drewN _ _ _).trans g3⟩

theorem noise_s (s i el : Int) (t : Nat) (w : World) (h : 0 ≤ s) (h2 : s ≤ 2147483647) (h3 : 0 ≤ i) (h4 : i ≤ 1000000) (h5 : 0 ≤ el) (h6 : el ≤ 15) : Calls Try.prog 35 #[.int .i64 s, .int .i64 i, .int .i64 el, .float .f32 t] w fun e w' => ∃ p q, e = .returned (.tuple #[.complex .f32 p q, .bool true]) ∧ can .f32 p = nz (dr s (2 * (16 * i + el + 1000000))) t ∧ can .f32 q = nz (dr s (2 * (16 * i + el + 1000000) + 1)) t ∧ w.grownBy w' none := by
  have HN := Lib.hid (fun w => noise_l s i el t w h h2 h3 h4 h5 h6)
  go_enter Try.func35, Try.ntmps35
  go_wp2_with fail
  refine (sseed_yes _ _ h h2).mono ?_
  rintro e w' ⟨rfl, rfl⟩
  go_wp2_with fail
  refine (sindex_yes _ _ h3 h4).mono ?_
  rintro e w' ⟨rfl, rfl⟩
  go_wp2_with fail
  refine (in_yes _ _ _ _ h5 h6).mono ?_
  rintro e w' ⟨rfl, rfl⟩
  go_wp2_with fail
  refine (HN.out _).mono ?_
  rintro e w1 ⟨p, q, rfl, hp, hq, g1⟩
  have HP := Lib.hid hp
  have HQ := Lib.hid hq
  clear hp hq
  go_wp2_with fail
  go_ret2
  exact ⟨p, q, rfl, HP.out, HQ.out, g1⟩
theorem noiseno_s (s i el : Int) (t : Nat) (w : World) (h : ¬ ((0 ≤ s ∧ s ≤ 2147483647) ∧ (0 ≤ i ∧ i ≤ 1000000) ∧ (0 ≤ el ∧ el ≤ 15))) : Calls Try.prog 35 #[.int .i64 s, .int .i64 i, .int .i64 el, .float .f32 t] w fun e w' => e = .returned (.tuple #[.complex .f32 0 0, .bool false]) ∧ w = w' := by
  by_cases hs : 0 ≤ s ∧ s ≤ 2147483647
  · by_cases hi : 0 ≤ i ∧ i ≤ 1000000
    · have hx := Lib.hid (show el < 0 ∨ 15 < el by omega)
      obtain ⟨s0, s1⟩ := hs
      obtain ⟨i0, i1⟩ := hi
      clear h
      go_enter Try.func35, Try.ntmps35
      go_wp2_with fail
      refine (sseed_yes _ _ s0 s1).mono ?_
      rintro e w' ⟨rfl, rfl⟩
      go_wp2_with fail
      refine (sindex_yes _ _ i0 i1).mono ?_
      rintro e w' ⟨rfl, rfl⟩
      go_wp2_with fail
      refine (in_no _ _ _ _ hx.out).mono ?_
      rintro e w' ⟨rfl, rfl⟩
      go_wp2_with fail
      go_ret2
      exact ⟨rfl, rfl⟩
    · have hx := Lib.hid (show i < 0 ∨ 1000000 < i by omega)
      obtain ⟨s0, s1⟩ := hs
      clear h hi
      go_enter Try.func35, Try.ntmps35
      go_wp2_with fail
      refine (sseed_yes _ _ s0 s1).mono ?_
      rintro e w' ⟨rfl, rfl⟩
      go_wp2_with fail
      refine (sindex_no _ _ hx.out).mono ?_
      rintro e w' ⟨rfl, rfl⟩
      go_wp2_with fail
      go_ret2
      exact ⟨rfl, rfl⟩
  · have hx := Lib.hid (show s < 0 ∨ 2147483647 < s by omega)
    clear h hs
    go_enter Try.func35, Try.ntmps35
    go_wp2_with fail
    refine (sseed_no _ _ hx.out).mono ?_
    rintro e w' ⟨rfl, rfl⟩
    go_wp2_with fail
    go_ret2
    exact ⟨rfl, rfl⟩

end Go.Proofs.Ytabbfpjngbiohaa.noise
