/- Weights with nulls, by the model. -/
import Derived.Test.YtjmgohlepglkoaaRows
import Derived.Test.YtjmgohlepglkoaaSlc
import Derived.Test.YtjmgohlepglkoaaSmall
import Derived.Test.YtjmgohlepglkoaaOpens
import Derived.Test.YtjmgohlepglkoaaPlaces
import Derived.Test.YtjmgohlepglkoaaPlaceSet
import Derived.Test.YtjmgohlepglkoaaSteps
import Derived.Test.YtjmgohlepglkoaaListI
import Derived.Test.YtjmgohlepglkoaaListC
import Derived.Test.YtjmgohlepglkoaaFloats
import Derived.Test.YtjmgohlepglkoaaRound
import Derived.Test.YtjmgohlepglkoaaValues
import Derived.Test.YtjmgohlepglkoaaConv
import Derived.Test.YtjmgohlepglkoaaFWalk
import Derived.Test.YtjmgohlepglkoaaFinWalk
import Derived.Test.YtjmgohlepglkoaaFloat2
import Derived.Test.YtjmgohlepglkoaaFloat3
import Derived.Test.YtjmgohlepglkoaaPhase
import Derived.Test.YtjmgohlepglkoaaSine
import Derived.Test.YtjmgohlepglkoaaPhasor
import Derived.Test.YtjmgohlepglkoaaSteerNum
import Derived.Test.YtjmgohlepglkoaaSteering
import Derived.Test.YtjmgohlepglkoaaSineIn
import Derived.Test.YtjmgohlepglkoaaPolyNum
import Derived.Test.YtjmgohlepglkoaaPolyW
import Derived.Test.YtjmgohlepglkoaaPoly1
import Derived.Test.YtjmgohlepglkoaaPoly2
import Derived.Test.YtjmgohlepglkoaaConcatC
import Derived.Test.YtjmgohlepglkoaaPolyA
import Derived.Test.YtjmgohlepglkoaaPolyB
import Derived.Test.YtjmgohlepglkoaaPolyC
import Derived.Test.YtjmgohlepglkoaaPolyD
import Derived.Test.YtjmgohlepglkoaaNullI
import Derived.WalkKit
import Derived.ProofKit
import Derived.OpenShut
import Derived.ShutString
import Derived.ChangeOld
import Derived.Below
import Derived.Lib.Hide
import Derived.BigQuiet
import Derived.Deep.QuietTactic
import Derived.WalkLawsBesides
import Derived.Outline
import Derived.Deep.LoopGhost
import Derived.Deep.QuietTactic
import Derived.BigQuiet
import Derived.Deep.RegionHeld3
import Derived.Deep.AppendLies
import Derived.StillTailTactics
import Derived.Laws.ComplexArith
namespace Go.Proofs.Ytjmgohlepglkoaa.nullS
open Go.ChangeShapes Go.WideShapes Go.ChangeAt Go.RowKit
open Go.ChangeMaps (open_string shut_string)
set_option linter.unusedVariables false
open Go Ieee Go.RowKit
open Go.Proofs.Ytjmgohlepglkoaa.slc Go.Proofs.Ytjmgohlepglkoaa.small Go.Proofs.Ytjmgohlepglkoaa.listC Go.Proofs.Ytjmgohlepglkoaa.floats Go.Proofs.Ytjmgohlepglkoaa.round Go.Proofs.Ytjmgohlepglkoaa.values Go.Proofs.Ytjmgohlepglkoaa.conv Go.Proofs.Ytjmgohlepglkoaa.fWalk Go.Proofs.Ytjmgohlepglkoaa.float2 Go.Proofs.Ytjmgohlepglkoaa.float3 Go.Proofs.Ytjmgohlepglkoaa.phase Go.Proofs.Ytjmgohlepglkoaa.sine Go.Proofs.Ytjmgohlepglkoaa.phasor Go.Proofs.Ytjmgohlepglkoaa.steerNum Go.Proofs.Ytjmgohlepglkoaa.steering Go.Proofs.Ytjmgohlepglkoaa.polyNum Go.Proofs.Ytjmgohlepglkoaa.poly1 Go.Proofs.Ytjmgohlepglkoaa.poly2 Go.Proofs.Ytjmgohlepglkoaa.polyD Go.Proofs.Ytjmgohlepglkoaa.nullI

attribute [local go_sem] run_store_complex
set_option maxHeartbeats 2000000 in
set_option maxRecDepth 100000 in
theorem spec_yes (s : Int) (us : List Int) (hv : Nv s us) : Nul 29 s us ((pol (nulz s us)).map cj) true := by
  intro A c B w hm hr hB
  obtain ⟨i0, hi0, hz0, hz1, hz2⟩ := info_parts infoC
  obtain ⟨⟨s1, s2⟩, hn, hu⟩ := hv
  have hn' : (us.length : Int) ≤ 15 := by omega
  have HU := Lib.hid hu
  have HNZ := Lib.hid (nulz_in s us s1 s2 hu)
  have hlen : ((pol (nulz s us)).map cj).length = us.length + 1 := by rw [List.length_map, pol_len1, nulz_len]
  have HL := Lib.hid hlen
  rw [hlen]
  clear hu hlen
  have hww := in_yes s 1 4096 w s1 s2
  go_enter Try.func29, Try.ntmps29
  go_wp2_with fail
  refine hww.mono ?_
  rintro e w' ⟨rfl, rfl⟩
  go_wp2_with fail
  go_loopw [6, 7] (fun v i wr => ∃ k : Nat, k ≤ us.length ∧ i = .int .i64 k ∧ wr.ownsRow w.heap.size 70 1 v (nulz s (us.take k)).length (lst (ccell (nulz s (us.take k))) (nulz s (us.take k)).length) ∧ w.grownBy wr none) (fun _ i _ => us.length - (intOf i).toNat)
  case atStart => exact ⟨0, Nat.zero_le _, rfl, World.ownsRow_lit w #[] 0 (Nat.le_refl _) (Nat.zero_le _) rfl, World.grownBy_alloc _ _ _⟩
  case round =>
    obtain ⟨k, hk, rfl, hown, hg⟩ := hrel
    by_cases hlt : k < us.length
    · obtain ⟨ad, rfl, hab, hc⟩ := (hr.kept0 hg hB).at_ hlt
      rw [show cls us k = .int .i64 us[k] from ints_getD us k hlt] at hc
      have hu := HU.out _ (List.getElem_mem hlt)
      have hs := ccell_snoc (nulz s (us.take k)) (phz (s * us[k])).1 (phz (s * us[k])).2
      rw [← nulz_snoc s us k hlt] at hs
      have hll : (nulz s (us.take (k + 1))).length = (nulz s (us.take k)).length + 1 := by rw [nulz_snoc s us k hlt]; simp
      have HS := Lib.hid hs
      have HLL := Lib.hid hll
      have hln : (nulz s (us.take k)).length ≤ 15 := by rw [nulz_len]; simp; omega
      clear hs hll
      generalize us[k] = u at *
      obtain ⟨u1, u2⟩ := hu
      obtain ⟨sb, p1, p2⟩ := su_bd s1 s2 u1 u2
      have hsh := fun w => in_yes u (-64) 64 w u1 u2
      have hph := fun w => phc_spec (s * u) w sb
      have hquo := run_ok (P := Try.prog) (sx_ok _ sb).1 rfl
      have HSH := Lib.hid hsh
      have HPH := Lib.hid hph
      have k0 : (0 : Int) ≤ k := by omega
      have k1 : (k : Int) < us.length := by omega
      clear hsh hph sb
      go_wp2_with fail
      refine (HSH.out _).mono ?_
      rintro e w5 ⟨rfl, rfl⟩
      go_wp2_with fail
      refine (HPH.out _).mono ?_
      rintro e w5 ⟨rfl, rfl⟩
      generalize phz (s * u) = m at *
      have hbs := Nat.le_trans hg.size (show wr.heap.size ≤ (wr.alloc (.cells #[.complex .f32 m.1 m.2] 70)).heap.size by simp)
      generalize hnk : (nulz s (us.take k)).length = nk at *
      go_wp2_with (at_builtin; refine wpList_append_own _ rfl _ _ 32 rfl w.heap.size 70 i0 (.complex .f32 0 0) 1 8 Try.underlying32 hi0 hz0 hz1 hz2 rfl (by decide) _ _ _ rfl (hown.alloc _) ⟨wr.heap.size, 0, none⟩ 1 1 [.complex .f32 m.1 m.2] rfl rfl (cell_one_new _ _ _) (poly1.cpx_one _ _) (by unfold maxLen; omega) (by omega) hbs ?_; intro v' w4 hown' hgrow _; obtain ⟨g, cap, rfl, _, _⟩ := hown'.form (by omega))
      have g4 := gb_own (hg.trans (World.grownBy_alloc _ _ _)) (hown.alloc _) (Nat.le_refl _) hgrow
      go_roundw
      case rel => exact ⟨k + 1, by omega, by go_num, by rw [HS.out, HLL.out]; exact hown', g4⟩
      case measure => simp [intOf]; omega
    · obtain rfl : k = us.length := by omega
      rw [List.take_length] at hown
      obtain ⟨A', c', rfl⟩ := own_form hown
      have hR := Rd.of_lst hown (Nat.mul_one _).symm
      have hp := poly_spec A' c' _ (nulz s us) _ (by rw [nulz_len]; omega) HNZ.out hR (Nat.le_refl _)
      have HP := Lib.hid hp
      clear hp hR
      go_wp2_with fail
      refine HP.out.mono ?_
      rintro e w6 ⟨A6, c6, rfl, ho6, hg6⟩
      have g6 := hg.trans hg6
      have hpl : (pol (nulz s us)).length = us.length + 1 := by rw [pol_len1, nulz_len]
      have R6 := Rd.of_lst ho6 (Nat.mul_one _).symm
      have HP6 := Lib.hid R6
      have g60 := g6.size
      have hnl := nulz_len s us
      rw [hnl] at HP6 ⊢
      clear ho6 hg6 hown hg R6
      go_wp2_with fail
      go_loopw [9, 10] (fun v i wr => ∃ k : Nat, k ≤ us.length + 1 ∧ i = .int .i64 k ∧ wr.ownsRow w6.heap.size 70 1 v k (lst (ccell ((pol (nulz s us)).map cj)) k) ∧ w6.grownBy wr none) (fun _ i _ => us.length + 1 - (intOf i).toNat)
      case atStart => exact ⟨0, Nat.zero_le _, rfl, World.ownsRow_lit w6 #[] 0 (Nat.le_refl _) (Nat.zero_le _) rfl, World.grownBy_alloc _ _ _⟩
      case round =>
        obtain ⟨k, hk, rfl, hown, hg⟩ := hrel
        by_cases hlt : k < us.length + 1
        · obtain ⟨ad, rfl, _, hc⟩ := (HP6.out.kept0 hg (Nat.le_refl _)).at_ hlt
          unfold ccell at hc
          have happ : lst (ccell ((pol (nulz s us)).map cj)) k ++ [.complex .f32 ((pol (nulz s us)).getD k (0, 0)).1 (Op.negFloat .f32 ((pol (nulz s us)).getD k (0, 0)).2)] = lst (ccell ((pol (nulz s us)).map cj)) (k + 1) := by
            have e : ccell ((pol (nulz s us)).map cj) k = .complex .f32 ((pol (nulz s us)).getD k (0, 0)).1 (Op.negFloat .f32 ((pol (nulz s us)).getD k (0, 0)).2) := by
              unfold ccell
              rw [map_at _ _ _ (by omega)]
              rfl
            rw [← e]
            simp [lst, List.range_succ]
          have HAP := Lib.hid happ
          clear happ
          generalize (pol (nulz s us)).getD k (0, 0) = y at *
          have k0 : (0 : Int) ≤ k := by omega
          have k1 : (k : Int) < (us.length : Int) + 1 := by omega
          go_wp2_with fail
          refine (conj_spec _ _ _).mono ?_
          rintro e w7 ⟨rfl, rfl⟩
          generalize Op.negFloat .f32 y.2 = q at *
          have hbs := Nat.le_trans hg.size (show w7.heap.size ≤ (w7.alloc (.cells #[.complex .f32 y.1 q] 70)).heap.size by simp)
          go_wp2_with (at_builtin; refine wpList_append_own _ rfl _ _ 32 rfl w6.heap.size 70 i0 (.complex .f32 0 0) 1 8 Try.underlying32 hi0 hz0 hz1 hz2 rfl (by decide) _ _ _ rfl (hown.alloc _) ⟨w7.heap.size, 0, none⟩ 1 1 [.complex .f32 y.1 q] rfl rfl (cell_one_new _ _ _) (poly1.cpx_one _ _) (by unfold maxLen; omega) (by omega) hbs ?_; intro v' w4 hown' hgrow _; obtain ⟨g, cap, rfl, _, _⟩ := hown'.form (by omega))
          rw [HAP.out] at hown'
          have g4 := gb_own (hg.trans (World.grownBy_alloc _ _ _)) (hown.alloc _) (Nat.le_refl _) hgrow
          go_roundw
          case rel => exact ⟨k + 1, by omega, by go_num, hown', g4⟩
          case measure => simp [intOf]; omega
        · obtain rfl : k = us.length + 1 := by omega
          obtain ⟨A7, c7, rfl⟩ := own_form hown
          go_wp2_with fail
          go_ret2
          exact ⟨_, _, rfl, own_mono hown g60, g6.trans hg⟩

set_option maxHeartbeats 2000000 in
set_option maxRecDepth 100000 in
theorem spec_no (s : Int) (us : List Int) (hv : ¬ Nv s us) : Nul 29 s us [] false := by
  intro A c B w hm hr hB
  have none_own : ∀ w' : World, w.grownBy w' none → ∃ A' c', Ending.returned (.tuple #[.slice none 0 0, .bool false]) = .returned (.tuple #[.slice A' ([] : List (Nat × Nat)).length c', .bool false]) ∧ w'.ownsRow w.heap.size 70 1 (.slice A' ([] : List (Nat × Nat)).length c') ([] : List (Nat × Nat)).length (lst (ccell []) ([] : List (Nat × Nat)).length) ∧ w.grownBy w' none := fun w' hg => ⟨none, 0, rfl, World.ownsRow_nil _ _ _ _, hg⟩
  have NO := Lib.hid none_own
  clear none_own
  obtain ⟨i0, hi0, hz0, hz1, hz2⟩ := info_parts infoC
  by_cases hs : 1 ≤ s ∧ s ≤ 4096
  · have hww := in_yes s 1 4096 w hs.1 hs.2
    by_cases hn : us.length ≤ 15
    · have hn' : (us.length : Int) ≤ 15 := by omega
      have hbad : ¬ ∀ u ∈ us, -64 ≤ u ∧ u ≤ 64 := fun h => hv ⟨hs, hn, h⟩
      have HB := Lib.hid hbad
      obtain ⟨s1, s2⟩ := hs
      clear hv hbad
      go_enter Try.func29, Try.ntmps29
      go_wp2_with fail
      refine hww.mono ?_
      rintro e w' ⟨rfl, rfl⟩
      go_wp2_with fail
      go_loopw [6, 7] (fun v i wr => ∃ k : Nat, k ≤ us.length ∧ i = .int .i64 k ∧ (∀ t (h : t < us.length), t < k → -64 ≤ us[t] ∧ us[t] ≤ 64) ∧ wr.ownsRow w.heap.size 70 1 v (nulz s (us.take k)).length (lst (ccell (nulz s (us.take k))) (nulz s (us.take k)).length) ∧ w.grownBy wr none) (fun _ i _ => us.length - (intOf i).toNat)
      case atStart => exact ⟨0, Nat.zero_le _, rfl, fun t _ h => absurd h (by omega), World.ownsRow_lit w #[] 0 (Nat.le_refl _) (Nat.zero_le _) rfl, World.grownBy_alloc _ _ _⟩
      case round =>
        obtain ⟨k, hk, rfl, hall, hown, hg⟩ := hrel
        by_cases hlt : k < us.length
        · obtain ⟨ad, rfl, hab, hc⟩ := (hr.kept0 hg hB).at_ hlt
          rw [show cls us k = .int .i64 us[k] from ints_getD us k hlt] at hc
          have hs := ccell_snoc (nulz s (us.take k)) (phz (s * us[k])).1 (phz (s * us[k])).2
          rw [← nulz_snoc s us k hlt] at hs
          have hll : (nulz s (us.take (k + 1))).length = (nulz s (us.take k)).length + 1 := by rw [nulz_snoc s us k hlt]; simp
          have HS := Lib.hid hs
          have HLL := Lib.hid hll
          have hln : (nulz s (us.take k)).length ≤ 15 := by rw [nulz_len]; simp; omega
          have k0 : (0 : Int) ≤ k := by omega
          have k1 : (k : Int) < us.length := by omega
          clear hs hll
          by_cases hu : -64 ≤ us[k] ∧ us[k] ≤ 64
          · have hall' : ∀ t (h : t < us.length), t < k + 1 → -64 ≤ us[t] ∧ us[t] ≤ 64 := fun t h h1 => by
              rcases Nat.lt_or_ge t k with h2 | h2
              · exact hall t h h2
              · obtain rfl : t = k := by omega
                exact hu
            have HALL := Lib.hid hall'
            clear hall hall'
            generalize us[k] = u at *
            obtain ⟨u1, u2⟩ := hu
            obtain ⟨sb, p1, p2⟩ := su_bd s1 s2 u1 u2
            have hsh := fun w => in_yes u (-64) 64 w u1 u2
            have hph := fun w => phc_spec (s * u) w sb
            have hquo := run_ok (P := Try.prog) (sx_ok _ sb).1 rfl
            have HSH := Lib.hid hsh
            have HPH := Lib.hid hph
            clear hsh hph sb
            go_wp2_with fail
            refine (HSH.out _).mono ?_
            rintro e w5 ⟨rfl, rfl⟩
            go_wp2_with fail
            refine (HPH.out _).mono ?_
            rintro e w5 ⟨rfl, rfl⟩
            generalize phz (s * u) = m at *
            have hbs := Nat.le_trans hg.size (show wr.heap.size ≤ (wr.alloc (.cells #[.complex .f32 m.1 m.2] 70)).heap.size by simp)
            generalize hnk : (nulz s (us.take k)).length = nk at *
            go_wp2_with (at_builtin; refine wpList_append_own _ rfl _ _ 32 rfl w.heap.size 70 i0 (.complex .f32 0 0) 1 8 Try.underlying32 hi0 hz0 hz1 hz2 rfl (by decide) _ _ _ rfl (hown.alloc _) ⟨wr.heap.size, 0, none⟩ 1 1 [.complex .f32 m.1 m.2] rfl rfl (cell_one_new _ _ _) (poly1.cpx_one _ _) (by unfold maxLen; omega) (by omega) hbs ?_; intro v' w4 hown' hgrow _; obtain ⟨g, cap, rfl, _, _⟩ := hown'.form (by omega))
            have g4 := gb_own (hg.trans (World.grownBy_alloc _ _ _)) (hown.alloc _) (Nat.le_refl _) hgrow
            go_roundw
            case rel => exact ⟨k + 1, by omega, by go_num, HALL.out, by rw [HS.out, HLL.out]; exact hown', g4⟩
            case measure => simp [intOf]; omega
          · have hu' : us[k] < -64 ∨ 64 < us[k] := by omega
            generalize us[k] = u at *
            have hsh := fun w => in_no u (-64) 64 w hu'
            have HSH := Lib.hid hsh
            clear hsh hu hu' hall
            go_wp2_with fail
            refine (HSH.out _).mono ?_
            rintro e w5 ⟨rfl, rfl⟩
            go_wp2_with fail
            go_ret2
            exact NO.out _ hg
        · exact absurd (fun u hu => by obtain ⟨t, ht, rfl⟩ := List.getElem_of_mem hu; exact hall t ht (by omega)) HB.out
    · have hn' : (15 : Int) < us.length := by omega
      clear hv
      go_enter Try.func29, Try.ntmps29
      go_wp2_with fail
      refine hww.mono ?_
      rintro e w' ⟨rfl, rfl⟩
      go_wp2_with fail
      go_ret2
      exact NO.out _ (World.grownBy.refl _ _)
  · have hww := in_no s 1 4096 w (by omega)
    clear hv hs
    go_enter Try.func29, Try.ntmps29
    go_wp2_with fail
    refine hww.mono ?_
    rintro e w' ⟨rfl, rfl⟩
    go_wp2_with fail
    go_ret2
    exact NO.out _ (World.grownBy.refl _ _)

end Go.Proofs.Ytjmgohlepglkoaa.nullS
