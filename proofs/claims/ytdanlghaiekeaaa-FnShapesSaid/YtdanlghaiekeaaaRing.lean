/- RingPlaces, by the program and by the model. -/
import Derived.Test.YtdanlghaiekeaaaRows
import Derived.Test.YtdanlghaiekeaaaSlc
import Derived.Test.YtdanlghaiekeaaaSmall
import Derived.Test.YtdanlghaiekeaaaOpens
import Derived.Test.YtdanlghaiekeaaaPlaces
import Derived.Test.YtdanlghaiekeaaaPlaceSet
import Derived.Test.YtdanlghaiekeaaaListP
import Derived.Test.YtdanlghaiekeaaaGive
import Derived.Test.YtdanlghaiekeaaaFloats
import Derived.Test.YtdanlghaiekeaaaRound
import Derived.Test.YtdanlghaiekeaaaValues
import Derived.Test.YtdanlghaiekeaaaConv
import Derived.Test.YtdanlghaiekeaaaFWalk
import Derived.Test.YtdanlghaiekeaaaFinWalk
import Derived.Test.YtdanlghaiekeaaaFloat2
import Derived.Test.YtdanlghaiekeaaaFloat3
import Derived.Test.YtdanlghaiekeaaaPhase
import Derived.Test.YtdanlghaiekeaaaSine
import Derived.Test.YtdanlghaiekeaaaPhasor
import Derived.Test.YtdanlghaiekeaaaListC
import Derived.Test.YtdanlghaiekeaaaSteerNum
import Derived.Test.YtdanlghaiekeaaaRingNum
import Derived.WalkKit
import Derived.ProofKit
import Derived.OpenShut
import Derived.ShutString
import Derived.ChangeOld
import Derived.Below
import Derived.Lib.Hide
import Derived.BigQuiet
import Derived.Deep.QuietTactic
import Derived.WalkLawsBesides
import Derived.Outline
import Derived.Deep.LoopGhost
import Derived.Deep.RegionHeld3
import Derived.Deep.AppendLies
import Derived.Laws.Cover2
import Derived.Laws.ComplexArith
namespace Go.Proofs.Ytdanlghaiekeaaa.ring
open Go.ChangeShapes Go.WideShapes Go.ChangeAt Go.RowKit
open Go.ChangeMaps (open_string shut_string)
set_option linter.unusedVariables false
open Go Ieee Go.RowKit
open Go.Proofs.Ytdanlghaiekeaaa.slc Go.Proofs.Ytdanlghaiekeaaa.small Go.Proofs.Ytdanlghaiekeaaa.opens Go.Proofs.Ytdanlghaiekeaaa.places Go.Proofs.Ytdanlghaiekeaaa.listP Go.Proofs.Ytdanlghaiekeaaa.give Go.Proofs.Ytdanlghaiekeaaa.floats Go.Proofs.Ytdanlghaiekeaaa.values Go.Proofs.Ytdanlghaiekeaaa.conv Go.Proofs.Ytdanlghaiekeaaa.float2 Go.Proofs.Ytdanlghaiekeaaa.float3 Go.Proofs.Ytdanlghaiekeaaa.phase Go.Proofs.Ytdanlghaiekeaaa.sine Go.Proofs.Ytdanlghaiekeaaa.phasor Go.Proofs.Ytdanlghaiekeaaa.listC Go.Proofs.Ytdanlghaiekeaaa.steerNum Go.Proofs.Ytdanlghaiekeaaa.ringNum

theorem cv_wd {a : Nat} (h : FinW single a) (w : World) : (convert 44 43 (.float .f32 a)).run Try.prog w = .ok (.float .f64 (wd a)) w := by
  have h1 := run_convff (P := Try.prog) w 44 43 .f32 .f64 a (by rw [Try.underlying44]; rfl) Try.underlying43
  have e1 : cval .f32 w a .f64 = wd a := by unfold cval; rw [(wd_ok h).1]
  have e2 : ccnt .f32 a .f64 = 0 := by unfold ccnt; rw [(wd_ok h).1]; rfl
  rw [e1, e2] at h1
  simpa [World.drewN] using h1
theorem near_impl (a : Nat) (r : Int) (w : World) (h : FinW single a) (hb : (V single a).natAbs * 2 ^ 925 ≤ 2 ^ (D64 + 34)) (hr : r.natAbs ≤ 4096) :
    Calls Try.prog 107 #[.float .f32 a, .int .i64 r] w fun e w' => e = .returned (.int .i64 (rin (pr a r))) ∧ w = w' := by
  obtain ⟨p1, p2⟩ := pr_ok h hb hr
  have hcv := cv_wd h
  have hmul := run_ok (P := Try.prog) p1 rfl
  have hrte := c_rte p2
  have hrin := rin_ok p2
  clear p1 p2 hr hb h
  go_enter Try.func107, Try.ntmps107
  go_wp2
  go_ret
  exact ⟨rfl, rfl⟩

set_option maxHeartbeats 800000 in
set_option maxRecDepth 100000 in
theorem ring_impl (c : Nat) (r : Int) (w : World) (h1 : 1 ≤ c) (h2 : c ≤ 16) (h5 : -4096 ≤ r) (h6 : r ≤ 4096) :
    Calls Try.prog 33 #[.int .i64 c, .int .i64 r] w fun e w' => ∃ A' c', e = .returned (.tuple #[.slice A' (given (rgl c r c)).length c', .bool (vp (rgl c r c))]) ∧
      w'.ownsRow w.heap.size 49 2 (.slice A' (given (rgl c r c)).length c') (given (rgl c r c)).length (lst (pcell (given (rgl c r c))) ((given (rgl c r c)).length * 2)) ∧ w.grownBy w' none := by
  obtain ⟨i0, hi0, hz0, hz1, hz2⟩ := info_parts infoP
  go_enter Try.func33, Try.ntmps33
  go_wp2_with fail
  refine (count_yes _ _ (by omega) (by omega)).mono ?_
  rintro e w' ⟨rfl, rfl⟩
  go_wp2_with fail
  refine (offset_yes _ _ h5 h6).mono ?_
  rintro e w' ⟨rfl, rfl⟩
  go_wp2_with (at_make; refine wpList_make_full _ rfl _ _ _ rfl w.heap.size 49 i0 (.agg #[.int .i64 0, .int .i64 0]) 2 Try.underlying36 hi0 hz0 hz1 _ _ _ _ c rfl rfl rfl rfl (by rw [hz2]; omega) (by unfold maxLen; omega) (Nat.le_refl _) ?_; intro w2 hown hg2)
  go_loopw [21] (fun i wr => ∃ k : Nat, k ≤ c ∧ i = .int .i64 k ∧ wr.ownsRow w.heap.size 49 2 (.slice (some ⟨w.heap.size, 0, none⟩) c c) c (lst (mix (pcell (rgl c r c)) (fun _ => .int .i64 0) (k * 2)) (c * 2)) ∧ w.grownBy wr none) (fun i _ => c - (intOf i).toNat)
  case atStart =>
    refine ⟨0, Nat.zero_le _, rfl, ?_, hg2⟩
    rw [Nat.zero_mul, mix_zero]
    exact (made_places c) ▸ hown
  case round =>
    obtain ⟨k, hk, rfl, hown, hg⟩ := hrel
    by_cases hlt : k < c
    · obtain ⟨k1, k2, k3, k4⟩ := kq_ok (k : Int) (c : Int) (by omega) (by omega) (by omega)
      obtain ⟨⟨f1, f2⟩, ⟨f3, f4⟩⟩ := phx_ok k2 k3
      have hquo := run_ok (P := Try.prog) k1 rfl
      have hph := fun w => phx_impl (kq (k : Int) (c : Int)) w k4 k2 k3
      have hn1 := fun w => near_impl (phx (kq (k : Int) (c : Int))).1 r w f1 f2 (by omega)
      have hn2 := fun w => near_impl (phx (kq (k : Int) (c : Int))).2 r w f3 f4 (by omega)
      have sc1 : pcell (rgl c r c) (k * 2) = .int .i64 (rpl c r k).1 := by
        unfold pcell; rw [if_pos (by omega), show k * 2 / 2 = k by omega, rgl_at _ _ _ _ hlt]
      have sc2 : pcell (rgl c r c) (k * 2 + 1) = .int .i64 (rpl c r k).2 := by
        unfold pcell; rw [if_neg (by omega), show (k * 2 + 1) / 2 = k by omega, rgl_at _ _ _ _ hlt]
      have hr1 : (rpl c r k).1 = rin (pr (phx (kq (k : Int) (c : Int))).1 r) := rfl
      have hr2 : (rpl c r k).2 = rin (pr (phx (kq (k : Int) (c : Int))).2 r) := rfl
      rw [← hr1] at hn1
      rw [← hr2] at hn2
      have hne := (own_base hown _ rfl).2
      have hc := hown.cellAt (k * 2) (by omega)
      rw [lst_get _ _ _ (by omega)] at hc
      have hf := hown.frozenAt (k * 2)
      have hc2 := hown.cellAt (k * 2 + 1) (by omega)
      rw [lst_get _ _ _ (by omega)] at hc2
      have hf2 := hown.frozenAt (k * 2 + 1)
      obtain ⟨hs1, hs2⟩ := hown.stored (k * 2) (pcell (rgl c r c) (k * 2))
      rw [mix_set _ _ _ _ (by omega)] at hs1
      obtain ⟨ht1, ht2⟩ := hs1.stored (k * 2 + 1) (pcell (rgl c r c) (k * 2 + 1))
      rw [mix_set _ _ _ _ (by omega)] at ht1
      have hs2' := gb_new (gb_new hg hs2 (by intro g e; injection e with e; omega)) ht2 (by intro g e; injection e with e; omega)
      rw [sc1, sc2] at hs2' ht1
      clear hs2 hs1 ht2 sc1 sc2 hr1 hr2 f1 f2 f3 f4 k1 k2 k3 k4
      have HS := Lib.hid ht1
      have HG := Lib.hid hs2'
      have HP := Lib.hid hph
      have H1 := Lib.hid hn1
      have H2 := Lib.hid hn2
      clear ht1 hs2' hph hn1 hn2 hown hg
      have hk0 : (0 : Int) ≤ k := by omega
      have hk1 : (k : Int) < c := by omega
      generalize phx (kq (k : Int) (c : Int)) = PH at *
      generalize rpl c r k = RP at *
      go_wp2_with fail
      refine (HP.out _).mono ?_
      rintro e w' ⟨rfl, rfl⟩
      go_wp2_with fail
      refine (H1.out _).mono ?_
      rintro e w' ⟨rfl, rfl⟩
      go_wp2_with fail
      refine (H2.out _).mono ?_
      rintro e w' ⟨rfl, rfl⟩
      go_wp2_with fail
      go_roundw
      case rel => exact ⟨k + 1, by omega, by go_num, by rw [show (k + 1) * 2 = k * 2 + 1 + 1 by omega]; exact HS.out, HG.out⟩
      case measure => simp [intOf]; omega
    · obtain rfl : k = c := by omega
      rw [mix_full] at hown
      have G := give_impl (some ⟨w.heap.size, 0, none⟩) k w.heap.size (rgl k r k) wr (by rw [rgl_len]; omega) (by rw [rgl_len]; exact hown)
      rw [rgl_len] at G
      have GG := Lib.hid G
      clear G
      go_wp2_with fail
      refine GG.out.mono ?_
      rintro e w1 ⟨A'', c', rfl, ho', hg'⟩
      go_wp2_with fail
      go_ret2
      exact ⟨_, _, rfl, ho', hg.trans hg'⟩

section
attribute [local go_sem] build_place
set_option maxHeartbeats 800000 in
set_option maxRecDepth 100000 in
theorem ring_spec : True := trivial
end

end Go.Proofs.Ytdanlghaiekeaaa.ring
