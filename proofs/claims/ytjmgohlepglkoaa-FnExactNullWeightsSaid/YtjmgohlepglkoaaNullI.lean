/- Weights with nulls, by the program. -/
import Derived.Test.YtjmgohlepglkoaaRows
import Derived.Test.YtjmgohlepglkoaaSlc
import Derived.Test.YtjmgohlepglkoaaSmall
import Derived.Test.YtjmgohlepglkoaaOpens
import Derived.Test.YtjmgohlepglkoaaPlaces
import Derived.Test.YtjmgohlepglkoaaPlaceSet
import Derived.Test.YtjmgohlepglkoaaSteps
import Derived.Test.YtjmgohlepglkoaaListI
import Derived.Test.YtjmgohlepglkoaaListC
import Derived.Test.YtjmgohlepglkoaaFloats
import Derived.Test.YtjmgohlepglkoaaRound
import Derived.Test.YtjmgohlepglkoaaValues
import Derived.Test.YtjmgohlepglkoaaConv
import Derived.Test.YtjmgohlepglkoaaFWalk
import Derived.Test.YtjmgohlepglkoaaFinWalk
import Derived.Test.YtjmgohlepglkoaaFloat2
import Derived.Test.YtjmgohlepglkoaaFloat3
import Derived.Test.YtjmgohlepglkoaaPhase
import Derived.Test.YtjmgohlepglkoaaSine
import Derived.Test.YtjmgohlepglkoaaPhasor
import Derived.Test.YtjmgohlepglkoaaSteerNum
import Derived.Test.YtjmgohlepglkoaaSteering
import Derived.Test.YtjmgohlepglkoaaSineIn
import Derived.Test.YtjmgohlepglkoaaPolyNum
import Derived.Test.YtjmgohlepglkoaaPolyW
import Derived.Test.YtjmgohlepglkoaaPoly1
import Derived.Test.YtjmgohlepglkoaaPoly2
import Derived.Test.YtjmgohlepglkoaaConcatC
import Derived.Test.YtjmgohlepglkoaaPolyA
import Derived.Test.YtjmgohlepglkoaaPolyB
import Derived.Test.YtjmgohlepglkoaaPolyC
import Derived.Test.YtjmgohlepglkoaaPolyD
import Derived.WalkKit
import Derived.ProofKit
import Derived.OpenShut
import Derived.ShutString
import Derived.ChangeOld
import Derived.Below
import Derived.Lib.Hide
import Derived.BigQuiet
import Derived.Deep.QuietTactic
import Derived.WalkLawsBesides
import Derived.Outline
import Derived.Deep.LoopGhost
import Derived.Deep.QuietTactic
import Derived.BigQuiet
import Derived.Deep.RegionHeld3
import Derived.Laws.ComplexArith
namespace Go.Proofs.Ytjmgohlepglkoaa.nullI
open Go.ChangeShapes Go.WideShapes Go.ChangeAt Go.RowKit
open Go.ChangeMaps (open_string shut_string)
set_option linter.unusedVariables false
open Go Ieee Go.RowKit
open Go.Proofs.Ytjmgohlepglkoaa.slc Go.Proofs.Ytjmgohlepglkoaa.small Go.Proofs.Ytjmgohlepglkoaa.listC Go.Proofs.Ytjmgohlepglkoaa.floats Go.Proofs.Ytjmgohlepglkoaa.round Go.Proofs.Ytjmgohlepglkoaa.values Go.Proofs.Ytjmgohlepglkoaa.conv Go.Proofs.Ytjmgohlepglkoaa.fWalk Go.Proofs.Ytjmgohlepglkoaa.float2 Go.Proofs.Ytjmgohlepglkoaa.float3 Go.Proofs.Ytjmgohlepglkoaa.phase Go.Proofs.Ytjmgohlepglkoaa.sine Go.Proofs.Ytjmgohlepglkoaa.phasor Go.Proofs.Ytjmgohlepglkoaa.steerNum Go.Proofs.Ytjmgohlepglkoaa.steering Go.Proofs.Ytjmgohlepglkoaa.polyNum Go.Proofs.Ytjmgohlepglkoaa.poly2 Go.Proofs.Ytjmgohlepglkoaa.polyC Go.Proofs.Ytjmgohlepglkoaa.polyD

/-- The spacing and the nulls are valid. -/
def Nv (s : Int) (us : List Int) : Prop := (1 ≤ s ∧ s ≤ 4096) ∧ us.length ≤ 15 ∧ ∀ u ∈ us, -64 ≤ u ∧ u ≤ 64
open Classical in
/-- The weights with nulls, as words. -/
noncomputable def nlR (s : Int) (us : List Int) : List (Nat × Nat) := if Nv s us then (pol (nulz s us)).map cj else []
open Classical in
noncomputable def nlB (s : Int) (us : List Int) : Bool := decide (Nv s us)
/-- The cells of a list. -/
def cls (xs : List Int) (j : Nat) : Value := (ints xs).getD j undef
/-- What a function answers. -/
def Nul (F : Nat) (s : Int) (us : List Int) (R : List (Nat × Nat)) (ok : Bool) : Prop :=
  ∀ (A : Option Addr) (c B : Nat) (w : World), us.length ≤ 9223372036854775807 → Rd w B A us.length (cls us) → B ≤ w.heap.size →
    Calls Try.prog F #[.int .i64 s, .slice A us.length c] w fun e w' => ∃ A' c', e = .returned (.tuple #[.slice A' R.length c', .bool ok]) ∧ w'.ownsRow w.heap.size 70 1 (.slice A' R.length c') R.length (lst (ccell R) R.length) ∧ w.grownBy w' none
theorem nulz_mix (s : Int) (us : List Int) (zz : Nat → Value) (k : Nat) (h : k < us.length) : (lst (mix (ccell (nulz s us)) zz k) us.length).set k (.complex .f32 (phz (s * us[k])).1 (phz (s * us[k])).2) = lst (mix (ccell (nulz s us)) zz (k + 1)) us.length := by
  have e : ccell (nulz s us) k = .complex .f32 (phz (s * us[k])).1 (phz (s * us[k])).2 := by
    unfold ccell
    rw [nulz_at s us k h]
  rw [← e, mix_set _ _ _ _ h]

attribute [local go_sem] run_store_complex
set_option maxHeartbeats 2000000 in
set_option maxRecDepth 100000 in
theorem impl_yes (s : Int) (us : List Int) (hv : Nv s us) : Nul 31 s us ((pol (nulz s us)).map cj) true := by
  intro A c B w hm hr hB
  obtain ⟨i0, hi0, hz0, hz1, hz2⟩ := info_parts infoC
  obtain ⟨⟨s1, s2⟩, hn, hu⟩ := hv
  have hn' : (us.length : Int) ≤ 15 := by omega
  have HU := Lib.hid hu
  have HNZ := Lib.hid (nulz_in s us s1 s2 hu)
  have hlen : ((pol (nulz s us)).map cj).length = us.length + 1 := by rw [List.length_map, pol_len1, nulz_len]
  have HL := Lib.hid hlen
  rw [hlen]
  clear hu hlen
  have hww := within_yes s 1 4096 w s1 s2
  go_enter Try.func31, Try.ntmps31
  go_wp2_with fail
  refine hww.mono ?_
  rintro e w' ⟨rfl, rfl⟩
  go_wp2_with (at_make; refine wpList_make_full _ rfl _ _ _ rfl w.heap.size 70 i0 (.complex .f32 0 0) 1 Try.underlying32 hi0 hz0 hz1 _ _ _ _ us.length rfl rfl rfl rfl (by rw [hz2]; omega) (by unfold maxLen; omega) (Nat.le_refl _) ?_; intro w2 hown hg2)
  go_loopw [24] (fun i wr => ∃ k : Nat, k ≤ us.length ∧ i = .int .i64 k ∧ wr.ownsRow w.heap.size 70 1 (.slice (some ⟨w.heap.size, 0, none⟩) us.length us.length) us.length (lst (mix (ccell (nulz s us)) (fun _ => .complex .f32 0 0) k) us.length) ∧ w.grownBy wr none) (fun i _ => us.length - (intOf i).toNat)
  case atStart =>
    refine ⟨0, Nat.zero_le _, rfl, ?_, hg2⟩
    rw [mix_zero, ← replicate_lst]
    rw [Nat.mul_one] at hown
    exact (toList_madeCells_one (.complex .f32 0 0) us.length) ▸ hown
  case round =>
    obtain ⟨k, hk, rfl, hown, hg⟩ := hrel
    by_cases hlt : k < us.length
    · obtain ⟨ad, rfl, _, hc⟩ := (hr.kept0 hg hB).at_ hlt
      rw [show cls us k = .int .i64 us[k] from ints_getD us k hlt] at hc
      have hu := HU.out _ (List.getElem_mem hlt)
      have hmx := nulz_mix s us (fun _ => .complex .f32 0 0) k hlt
      generalize us[k] = u at *
      obtain ⟨u1, u2⟩ := hu
      obtain ⟨sb, p1, p2⟩ := su_bd s1 s2 u1 u2
      have hsh := fun w => share_yes u w u1 u2
      have hph := fun w => phc_impl (s * u) w sb
      have hquo := run_ok (P := Try.prog) (sx_ok _ sb).1 rfl
      have HSH := Lib.hid hsh
      have HPH := Lib.hid hph
      have HMX := Lib.hid hmx
      have k0 : (0 : Int) ≤ k := by omega
      have k1 : (k : Int) < us.length := by omega
      clear hsh hph hmx sb
      go_wp2_with fail
      refine (HSH.out _).mono ?_
      rintro e w5 ⟨rfl, rfl⟩
      go_wp2_with fail
      refine (HPH.out _).mono ?_
      rintro e w5 ⟨rfl, rfl⟩
      generalize phz (s * u) = m at *
      have hcell := hown.cellAt k (by omega)
      rw [lst_get _ _ _ hlt] at hcell
      have hm5 : mix (ccell (nulz s us)) (fun _ => Value.complex .f32 0 0) k k = .complex .f32 0 0 := by unfold mix; rw [if_neg (Nat.lt_irrefl _)]
      rw [hm5] at hcell
      have hf := hown.frozenAt k
      obtain ⟨hs1, hs2⟩ := hown.stored k (.complex .f32 m.1 m.2)
      rw [HMX.out] at hs1
      have hg' := gb_new hg hs2 (by intro g e; injection e with e; omega)
      have HS := Lib.hid hs1
      have HG := Lib.hid hg'
      clear hs1 hs2 hg' hown hg hm5
      go_wp2
      go_roundw
      case rel => exact ⟨k + 1, by omega, by go_num, HS.out, HG.out⟩
      case measure => simp [intOf]; omega
    · obtain rfl : k = us.length := by omega
      rw [mix_full] at hown
      have hnl := nulz_len s us
      have hR := Rd.of_lst hown (Nat.mul_one _).symm
      rw [← hnl] at hR
      have hp := poly_impl _ us.length _ (nulz s us) _ (by omega) HNZ.out hR (Nat.le_refl _)
      rw [hnl] at hp
      have HP := Lib.hid hp
      clear hp hR
      go_wp2_with fail
      refine HP.out.mono ?_
      rintro e w6 ⟨A6, c6, rfl, ho6, hg6⟩
      have g6 := hg.trans hg6
      have hpl : (pol (nulz s us)).length = us.length + 1 := by rw [pol_len1, hnl]
      have R6 := Rd.of_lst ho6 (Nat.mul_one _).symm
      rw [← hpl] at R6
      have hcj := conjs_impl _ c6 _ _ w6 (by omega) R6 (Nat.le_refl _)
      rw [hpl] at hcj
      have HC := Lib.hid hcj
      clear hcj R6 ho6 hg6 hown hg
      go_wp2_with fail
      refine HC.out.mono ?_
      rintro e w7 ⟨A7, c7, rfl, ho7, hg7⟩
      have ho7' := own_mono ho7 g6.size
      have g7 := g6.trans hg7
      clear ho7 hg7
      go_wp2_with fail
      go_ret2
      exact ⟨_, _, rfl, ho7', g7⟩

end Go.Proofs.Ytjmgohlepglkoaa.nullI
