/- Weights with nulls, by the program: no weights. -/
import Derived.Test.YtjmgohlepglkoaaRows
import Derived.Test.YtjmgohlepglkoaaSlc
import Derived.Test.YtjmgohlepglkoaaSmall
import Derived.Test.YtjmgohlepglkoaaOpens
import Derived.Test.YtjmgohlepglkoaaPlaces
import Derived.Test.YtjmgohlepglkoaaPlaceSet
import Derived.Test.YtjmgohlepglkoaaSteps
import Derived.Test.YtjmgohlepglkoaaListI
import Derived.Test.YtjmgohlepglkoaaListC
import Derived.Test.YtjmgohlepglkoaaFloats
import Derived.Test.YtjmgohlepglkoaaRound
import Derived.Test.YtjmgohlepglkoaaValues
import Derived.Test.YtjmgohlepglkoaaConv
import Derived.Test.YtjmgohlepglkoaaFWalk
import Derived.Test.YtjmgohlepglkoaaFinWalk
import Derived.Test.YtjmgohlepglkoaaFloat2
import Derived.Test.YtjmgohlepglkoaaFloat3
import Derived.Test.YtjmgohlepglkoaaPhase
import Derived.Test.YtjmgohlepglkoaaSine
import Derived.Test.YtjmgohlepglkoaaPhasor
import Derived.Test.YtjmgohlepglkoaaSteerNum
import Derived.Test.YtjmgohlepglkoaaSteering
import Derived.Test.YtjmgohlepglkoaaSineIn
import Derived.Test.YtjmgohlepglkoaaPolyNum
import Derived.Test.YtjmgohlepglkoaaPolyW
import Derived.Test.YtjmgohlepglkoaaPoly1
import Derived.Test.YtjmgohlepglkoaaPoly2
import Derived.Test.YtjmgohlepglkoaaConcatC
import Derived.Test.YtjmgohlepglkoaaPolyA
import Derived.Test.YtjmgohlepglkoaaPolyB
import Derived.Test.YtjmgohlepglkoaaPolyC
import Derived.Test.YtjmgohlepglkoaaPolyD
import Derived.Test.YtjmgohlepglkoaaNullI
import Derived.WalkKit
import Derived.ProofKit
import Derived.OpenShut
import Derived.ShutString
import Derived.ChangeOld
import Derived.Below
import Derived.Lib.Hide
import Derived.BigQuiet
import Derived.Deep.QuietTactic
import Derived.WalkLawsBesides
import Derived.Outline
import Derived.Deep.LoopGhost
import Derived.Deep.QuietTactic
import Derived.BigQuiet
import Derived.Deep.RegionHeld3
import Derived.Laws.ComplexArith
namespace Go.Proofs.Ytjmgohlepglkoaa.nullJ
open Go.ChangeShapes Go.WideShapes Go.ChangeAt Go.RowKit
open Go.ChangeMaps (open_string shut_string)
set_option linter.unusedVariables false
open Go Ieee Go.RowKit
open Go.Proofs.Ytjmgohlepglkoaa.slc Go.Proofs.Ytjmgohlepglkoaa.small Go.Proofs.Ytjmgohlepglkoaa.listC Go.Proofs.Ytjmgohlepglkoaa.floats Go.Proofs.Ytjmgohlepglkoaa.round Go.Proofs.Ytjmgohlepglkoaa.values Go.Proofs.Ytjmgohlepglkoaa.conv Go.Proofs.Ytjmgohlepglkoaa.fWalk Go.Proofs.Ytjmgohlepglkoaa.float2 Go.Proofs.Ytjmgohlepglkoaa.float3 Go.Proofs.Ytjmgohlepglkoaa.phase Go.Proofs.Ytjmgohlepglkoaa.sine Go.Proofs.Ytjmgohlepglkoaa.phasor Go.Proofs.Ytjmgohlepglkoaa.steerNum Go.Proofs.Ytjmgohlepglkoaa.steering Go.Proofs.Ytjmgohlepglkoaa.polyNum Go.Proofs.Ytjmgohlepglkoaa.poly2 Go.Proofs.Ytjmgohlepglkoaa.polyC Go.Proofs.Ytjmgohlepglkoaa.polyD Go.Proofs.Ytjmgohlepglkoaa.nullI

attribute [local go_sem] run_store_complex
theorem none_own (w w' : World) (hg : w.grownBy w' none) : ∃ A' c', Ending.returned (.tuple #[.slice none 0 0, .bool false]) = .returned (.tuple #[.slice A' ([] : List (Nat × Nat)).length c', .bool false]) ∧ w'.ownsRow w.heap.size 70 1 (.slice A' ([] : List (Nat × Nat)).length c') ([] : List (Nat × Nat)).length (lst (ccell []) ([] : List (Nat × Nat)).length) ∧ w.grownBy w' none :=
  ⟨none, 0, rfl, World.ownsRow_nil _ _ _ _, hg⟩
set_option maxHeartbeats 2000000 in
set_option maxRecDepth 100000 in
theorem impl_no (s : Int) (us : List Int) (hv : ¬ Nv s us) : Nul 31 s us [] false := by
  intro A c B w hm hr hB
  obtain ⟨i0, hi0, hz0, hz1, hz2⟩ := info_parts infoC
  by_cases hs : 1 ≤ s ∧ s ≤ 4096
  · have hww := within_yes s 1 4096 w hs.1 hs.2
    by_cases hn : us.length ≤ 15
    · have hn' : (us.length : Int) ≤ 15 := by omega
      have hbad : ¬ ∀ u ∈ us, -64 ≤ u ∧ u ≤ 64 := fun h => hv ⟨hs, hn, h⟩
      have HB := Lib.hid hbad
      obtain ⟨s1, s2⟩ := hs
      clear hv hbad
      go_enter Try.func31, Try.ntmps31
      go_wp2_with fail
      refine hww.mono ?_
      rintro e w' ⟨rfl, rfl⟩
      go_wp2_with (at_make; refine wpList_make_full _ rfl _ _ _ rfl w.heap.size 70 i0 (.complex .f32 0 0) 1 Try.underlying32 hi0 hz0 hz1 _ _ _ _ us.length rfl rfl rfl rfl (by rw [hz2]; omega) (by unfold maxLen; omega) (Nat.le_refl _) ?_; intro w2 hown hg2)
      go_loopw [24] (fun i wr => ∃ k : Nat, k ≤ us.length ∧ i = .int .i64 k ∧ (∀ t (h : t < us.length), t < k → -64 ≤ us[t] ∧ us[t] ≤ 64) ∧ wr.ownsRow w.heap.size 70 1 (.slice (some ⟨w.heap.size, 0, none⟩) us.length us.length) us.length (lst (mix (ccell (nulz s us)) (fun _ => .complex .f32 0 0) k) us.length) ∧ w.grownBy wr none) (fun i _ => us.length - (intOf i).toNat)
      case atStart =>
        refine ⟨0, Nat.zero_le _, rfl, fun t _ h => absurd h (by omega), ?_, hg2⟩
        rw [mix_zero, ← replicate_lst]
        rw [Nat.mul_one] at hown
        exact (toList_madeCells_one (.complex .f32 0 0) us.length) ▸ hown
      case round =>
        obtain ⟨k, hk, rfl, hall, hown, hg⟩ := hrel
        by_cases hlt : k < us.length
        · obtain ⟨ad, rfl, _, hc⟩ := (hr.kept0 hg hB).at_ hlt
          rw [show cls us k = .int .i64 us[k] from ints_getD us k hlt] at hc
          have hmx := nulz_mix s us (fun _ => .complex .f32 0 0) k hlt
          have k0 : (0 : Int) ≤ k := by omega
          have k1 : (k : Int) < us.length := by omega
          by_cases hu : -64 ≤ us[k] ∧ us[k] ≤ 64
          · have hall' : ∀ t (h : t < us.length), t < k + 1 → -64 ≤ us[t] ∧ us[t] ≤ 64 := fun t h h1 => by
              rcases Nat.lt_or_ge t k with h2 | h2
              · exact hall t h h2
              · obtain rfl : t = k := by omega
                exact hu
            have HALL := Lib.hid hall'
            clear hall hall'
            generalize us[k] = u at *
            obtain ⟨u1, u2⟩ := hu
            obtain ⟨sb, p1, p2⟩ := su_bd s1 s2 u1 u2
            have hsh := fun w => share_yes u w u1 u2
            have hph := fun w => phc_impl (s * u) w sb
            have hquo := run_ok (P := Try.prog) (sx_ok _ sb).1 rfl
            have HSH := Lib.hid hsh
            have HPH := Lib.hid hph
            have HMX := Lib.hid hmx
            clear hsh hph hmx sb
            go_wp2_with fail
            refine (HSH.out _).mono ?_
            rintro e w5 ⟨rfl, rfl⟩
            go_wp2_with fail
            refine (HPH.out _).mono ?_
            rintro e w5 ⟨rfl, rfl⟩
            generalize phz (s * u) = m at *
            have hcell := hown.cellAt k (by omega)
            rw [lst_get _ _ _ hlt] at hcell
            have hm5 : mix (ccell (nulz s us)) (fun _ => Value.complex .f32 0 0) k k = .complex .f32 0 0 := by unfold mix; rw [if_neg (Nat.lt_irrefl _)]
            rw [hm5] at hcell
            have hf := hown.frozenAt k
            obtain ⟨hs1, hs2⟩ := hown.stored k (.complex .f32 m.1 m.2)
            rw [HMX.out] at hs1
            have hg' := gb_new hg hs2 (by intro g e; injection e with e; omega)
            have HS := Lib.hid hs1
            have HG := Lib.hid hg'
            clear hs1 hs2 hg' hown hg hm5
            go_wp2
            go_roundw
            case rel => exact ⟨k + 1, by omega, by go_num, HALL.out, HS.out, HG.out⟩
            case measure => simp [intOf]; omega
          · have hu' : us[k] < -64 ∨ 64 < us[k] := by omega
            generalize us[k] = u at *
            have hsh := fun w => share_no u w hu'
            have HSH := Lib.hid hsh
            clear hsh hmx hu hu' hall
            go_wp2_with fail
            refine (HSH.out _).mono ?_
            rintro e w5 ⟨rfl, rfl⟩
            go_wp2_with fail
            go_ret2
            exact none_own _ _ hg
        · exact absurd (fun u hu => by obtain ⟨t, ht, rfl⟩ := List.getElem_of_mem hu; exact hall t ht (by omega)) HB.out
    · have hn' : (15 : Int) < us.length := by omega
      clear hv
      go_enter Try.func31, Try.ntmps31
      go_wp2_with fail
      refine hww.mono ?_
      rintro e w' ⟨rfl, rfl⟩
      go_wp2_with fail
      go_ret2
      exact none_own _ _ (World.grownBy.refl _ _)
  · have hww := within_no s 1 4096 w (by omega)
    clear hv hs
    go_enter Try.func31, Try.ntmps31
    go_wp2_with fail
    refine hww.mono ?_
    rintro e w' ⟨rfl, rfl⟩
    go_wp2_with fail
    go_ret2
    exact none_own _ _ (World.grownBy.refl _ _)

end Go.Proofs.Ytjmgohlepglkoaa.nullJ
