/- How many symbols are wrong, of one; the nearest symbol of a symbol. -/
import Derived.Test.YtpmjheofjmdfeaaRows
import Derived.Test.YtpmjheofjmdfeaaSlc
import Derived.Test.YtpmjheofjmdfeaaSmall
import Derived.Test.YtpmjheofjmdfeaaSeedAll
import Derived.WalkKit
import Derived.ProofKit
import Derived.OpenShut
import Derived.ShutString
import Derived.ChangeOld
import Derived.Below
import Derived.Lib.Hide
import Derived.BigQuiet
import Derived.Deep.QuietTactic
import Derived.WalkLawsBesides
import Derived.Outline
import Derived.Deep.LoopGhost
namespace Go.Proofs.Ytpmjheofjmdfeaa.countW
open Go.ChangeShapes Go.WideShapes Go.ChangeAt Go.RowKit
open Go.ChangeMaps (open_string shut_string)
set_option linter.unusedVariables false
open Go Ieee Go.RowKit
open Go.Proofs.Ytpmjheofjmdfeaa.slc Go.Proofs.Ytpmjheofjmdfeaa.small Go.Proofs.Ytpmjheofjmdfeaa.seeds Go.Proofs.Ytpmjheofjmdfeaa.symbol

theorem near_part (x : Nat) (hx : x = 1056964608 ∨ x = 3204448256) (w : World) :
    Calls Try.prog 139 #[.float .f32 x] w fun e w' => e = .returned (.float .f32 x) ∧ w = w' := by
  rcases hx with rfl | rfl
  · go_enter Try.func139, Try.ntmps139
    go_wp2
    go_ret
    exact ⟨rfl, rfl⟩
  · go_enter Try.func139, Try.ntmps139
    go_wp2
    go_ret
    exact ⟨rfl, rfl⟩
theorem near_sym (x y : Nat) (hx : x = 1056964608 ∨ x = 3204448256) (hy : y = 1056964608 ∨ y = 3204448256) (w : World) :
    Calls Try.prog 36 #[.complex .f32 x y] w fun e w' => e = .returned (.complex .f32 x y) ∧ w = w' := by
  have H1 := Lib.hid (near_part x hx)
  have H2 := Lib.hid (near_part y hy)
  clear hx hy
  go_enter Try.func36, Try.ntmps36
  go_wp2_with fail
  refine (H1.out _).mono ?_
  rintro e w' ⟨rfl, rfl⟩
  go_wp2_with fail
  refine (H2.out _).mono ?_
  rintro e w' ⟨rfl, rfl⟩
  go_wp2_with fail
  go_ret
  exact ⟨rfl, rfl⟩
set_option maxHeartbeats 1000000 in
theorem count_one (s i : Int) (p q n : Nat) (ad : Addr) (c : Nat) (w : World) (s0 : 0 ≤ s) (s1 : s ≤ 2147483647) (i0 : 0 ≤ i) (i1 : i ≤ 1000000)
    (h : (n = 0 ∧ (FloatKind.f32.format.order p (sy (dr s (2 * i) / 16384)) == some .eq) = true ∧ (FloatKind.f32.format.order q (sy (dr s (2 * i) / 8192)) == some .eq) = true) ∨ (n = 1 ∧ (FloatKind.f32.format.order p (sy (dr s (2 * i) / 16384)) == some .eq) = false))
    (hc : w.cell? ad = some (.complex .f32 p q)) :
    Calls Try.prog 35 #[.slice (some ad) 1 c, .int .i64 s, .int .i64 i] w fun e w' => e = .returned (.tuple #[.int .i64 n, .bool true]) ∧ w = w' := by
  have HS := Lib.hid (fun w => sym_i s i w s0 s1 i0 i1)
  have H1 := Lib.hid (fun w => seed_yes s w s0 s1)
  have H2 := Lib.hid (fun w => index_yes i w i0 i1)
  generalize sy (dr s (2 * i) / 16384) = X at *
  generalize sy (dr s (2 * i) / 8192) = Y at *
  go_enter Try.func35, Try.ntmps35
  go_wp2_with fail
  refine (H1.out _).mono ?_
  rintro e w' ⟨rfl, rfl⟩
  go_wp2_with fail
  refine (H2.out _).mono ?_
  rintro e w' ⟨rfl, rfl⟩
  go_wp2_with fail
  go_loopw [8, 28] (fun wv kv wr => ((kv = .int .i64 0 ∧ wv = .int .i64 0) ∨ (kv = .int .i64 1 ∧ wv = .int .i64 n)) ∧ w = wr) (fun _ kv _ => 1 - (intOf kv).toNat)
  case atStart => exact ⟨.inl ⟨rfl, rfl⟩, rfl⟩
  case round =>
    obtain ⟨hk, rfl⟩ := hrel
    rcases hk with ⟨rfl, rfl⟩ | ⟨rfl, rfl⟩
    · go_wp2_with fail
      refine (HS.out _).mono ?_
      rintro e w' ⟨rfl, rfl⟩
      rcases h with ⟨rfl, h1, h2⟩ | ⟨rfl, h1⟩
      · go_wp2_with fail
        go_roundw
        case rel => exact ⟨.inr ⟨rfl, rfl⟩, trivial⟩
        case measure => simp [intOf]
      · go_wp2_with fail
        go_roundw
        case rel => exact ⟨.inr ⟨rfl, rfl⟩, trivial⟩
        case measure => simp [intOf]
    · go_wp2_with fail
      go_ret2
      exact ⟨rfl, rfl⟩

end Go.Proofs.Ytpmjheofjmdfeaa.countW
