/- The phases of a wave, by the program and by the model. -/
import Derived.Test.YtkjmlpdbnnmlhabRows
import Derived.Test.YtkjmlpdbnnmlhabSlc
import Derived.Test.YtkjmlpdbnnmlhabSmall
import Derived.Test.YtkjmlpdbnnmlhabOpens
import Derived.Test.YtkjmlpdbnnmlhabPlaces
import Derived.Test.YtkjmlpdbnnmlhabPlaceSet
import Derived.Test.YtkjmlpdbnnmlhabSteps
import Derived.Test.YtkjmlpdbnnmlhabListC
import Derived.Test.YtkjmlpdbnnmlhabFloats
import Derived.Test.YtkjmlpdbnnmlhabRound
import Derived.Test.YtkjmlpdbnnmlhabValues
import Derived.Test.YtkjmlpdbnnmlhabConv
import Derived.Test.YtkjmlpdbnnmlhabFWalk
import Derived.Test.YtkjmlpdbnnmlhabFinWalk
import Derived.Test.YtkjmlpdbnnmlhabFloat2
import Derived.Test.YtkjmlpdbnnmlhabFloat3
import Derived.Test.YtkjmlpdbnnmlhabPhase
import Derived.Test.YtkjmlpdbnnmlhabSine
import Derived.Test.YtkjmlpdbnnmlhabPhasor
import Derived.Test.YtkjmlpdbnnmlhabSteerNum
import Derived.WalkKit
import Derived.ProofKit
import Derived.OpenShut
import Derived.ShutString
import Derived.ChangeOld
import Derived.Below
import Derived.Lib.Hide
import Derived.BigQuiet
import Derived.Deep.QuietTactic
import Derived.WalkLawsBesides
import Derived.Outline
import Derived.Deep.LoopGhost
import Derived.Deep.RegionHeld3
import Derived.Deep.AppendLies
import Derived.Laws.Pointers
import Derived.Laws.Tables
namespace Go.Proofs.Ytkjmlpdbnnmlhab.steering
open Go.ChangeShapes Go.WideShapes Go.ChangeAt Go.RowKit
open Go.ChangeMaps (open_string shut_string)
set_option linter.unusedVariables false
open Go Ieee Go.RowKit
open Go.Proofs.Ytkjmlpdbnnmlhab.slc Go.Proofs.Ytkjmlpdbnnmlhab.small Go.Proofs.Ytkjmlpdbnnmlhab.opens Go.Proofs.Ytkjmlpdbnnmlhab.places Go.Proofs.Ytkjmlpdbnnmlhab.placeSet Go.Proofs.Ytkjmlpdbnnmlhab.listC Go.Proofs.Ytkjmlpdbnnmlhab.floats Go.Proofs.Ytkjmlpdbnnmlhab.round Go.Proofs.Ytkjmlpdbnnmlhab.values Go.Proofs.Ytkjmlpdbnnmlhab.conv Go.Proofs.Ytkjmlpdbnnmlhab.fWalk Go.Proofs.Ytkjmlpdbnnmlhab.finWalk Go.Proofs.Ytkjmlpdbnnmlhab.float2 Go.Proofs.Ytkjmlpdbnnmlhab.float3 Go.Proofs.Ytkjmlpdbnnmlhab.phase Go.Proofs.Ytkjmlpdbnnmlhab.sine Go.Proofs.Ytkjmlpdbnnmlhab.phasor Go.Proofs.Ytkjmlpdbnnmlhab.steerNum
attribute [local go_sem] run_store_complex

theorem phc_impl (n : Int) (w : World) (h : n.natAbs ≤ 524288) : Calls Try.prog 220 #[.float .f64 (sx n)] w fun e w' => e = .returned (.complex .f32 (phz n).1 (phz n).2) ∧ w = w' := by
  obtain ⟨_, s1, s2, s3⟩ := sx_ok n h
  obtain ⟨a1, a2⟩ := abs_V s1
  exact ph_impl (sx n) w s3 s1 s2 (lt_is a1 F_52 (by rw [V_52, a2]; omega))
theorem phc_spec (n : Int) (w : World) (h : n.natAbs ≤ 524288) : Calls Try.prog 212 #[.float .f64 (sx n)] w fun e w' => e = .returned (.complex .f32 (phz n).1 (phz n).2) ∧ w = w' := by
  obtain ⟨_, s1, s2, _⟩ := sx_ok n h
  exact ph_spec (sx n) w s1 s2
theorem ok_at {ps : List (Int × Int)} (h : vp ps = true) (k : Nat) (hk : k < ps.length) : okB ps[k].1 ps[k].2 = true := (vp_yes h).2.2.1 _ (List.getElem_mem hk)
theorem steps_bd {x y u v : Int} (h : okB x y = true) (hd : dirB u v = true) : (x * u + y * v).natAbs ≤ 524288 ∧ (-262144 ≤ x * u ∧ x * u ≤ 262144) ∧ (-262144 ≤ y * v ∧ y * v ≤ 262144) := by
  obtain ⟨b1, b2, b3, b4⟩ := ok_yes h
  obtain ⟨d1, d2, d3, d4, d5⟩ := dir_yes hd
  have p1 := steps.prod_bd x u b1 b2 d1 d2
  have p2 := steps.prod_bd y v b3 b4 d3 d4
  omega
set_option maxHeartbeats 1000000 in
set_option maxRecDepth 100000 in
theorem pa_impl (A : Option Addr) (c B : Nat) (ps : List (Int × Int)) (u v : Int) (w : World) (hr : Rd w B A (ps.length * 2) (pcell ps)) (hB : B ≤ w.heap.size) (hv : vp ps = true) (hd : dirB u v = true) :
    Calls Try.prog 155 #[.slice A ps.length c, .agg #[.int .i64 u, .int .i64 v]] w fun e w' => ∃ A' c', e = .returned (.slice A' ps.length c') ∧
      w'.ownsRow w.heap.size 71 1 (.slice A' ps.length c') ps.length (lst (ccell (stl ps u v)) ps.length) ∧ w.grownBy w' none := by
  obtain ⟨i0, hi0, hz0, hz1, hz2⟩ := info_parts infoC
  have hl16 := (vp_yes hv).2.1
  have hbox := World.grownBy_alloc w (.cells #[.int .i64 u, .int .i64 v] 41) none
  have HVP := Lib.hid hv
  have HD := Lib.hid hd
  clear hv hd
  go_enter Try.func155, Try.ntmps155
  have hszw : w.heap.size + 1 ≤ (w.alloc (.cells #[.int .i64 u, .int .i64 v] 41)).heap.size := by simp
  go_wp2_with (at_make; refine wpList_make_full _ rfl _ _ _ rfl (w.heap.size + 1) 71 i0 (.complex .f32 0 0) 1 Try.underlying68 hi0 hz0 hz1 _ _ _ _ ps.length rfl rfl rfl rfl (by rw [hz2]; omega) (by unfold maxLen; omega) hszw ?_; intro w2 hown hg2)
  go_loopw [13] (fun i wr => ∃ k : Nat, k ≤ ps.length ∧ i = .int .i64 k ∧ wr.ownsRow (w.heap.size + 1) 71 1 (.slice (some ⟨w.heap.size + 1, 0, none⟩) ps.length ps.length) ps.length (lst (mix (ccell (stl ps u v)) (fun _ => .complex .f32 0 0) k) ps.length) ∧ (w.alloc (.cells #[.int .i64 u, .int .i64 v] 41)).grownBy wr none) (fun i _ => ps.length - (intOf i).toNat)
  case atStart =>
    refine ⟨0, Nat.zero_le _, rfl, ?_, hg2⟩
    rw [mix_zero, ← replicate_lst]
    rw [Nat.mul_one] at hown
    have h := (toList_madeCells_one (.complex .f32 0 0) ps.length) ▸ hown
    simpa using h
  case round =>
    obtain ⟨k, hk, rfl, hown, hg⟩ := hrel
    by_cases hlt : k < ps.length
    · obtain ⟨ad, rfl, hab, hx, hy⟩ := Rd.pair (hr.kept0 (hbox.trans hg) hB) hlt
      have hok := ok_at HVP.out k hlt
      obtain ⟨sb, p1, p2⟩ := steps_bd hok HD.out
      have G := fun w => steps.steps_i ps[k].1 ps[k].2 u v w p1 p2
      have hquo := run_ok (P := Try.prog) (sx_ok _ sb).1 rfl
      have HST := Lib.hid G
      have HSB := Lib.hid sb
      have hd0 := (boxed2 hg).1
      have hd1 := (boxed2 hg).2
      have hz : w.heap.size < wr.heap.size := by have := hg.size; simp at this; omega
      clear G sb hok p1 p2
      go_wp2_with fail
      refine (HST.out _).mono ?_
      rintro e w5 ⟨rfl, hg5⟩
      have hg6 := (World.grownBy_alloc _ _ _).trans hg5
      have hown5 := own_kept0 hown hg6
      have hgr := hg.trans hg6
      go_wp2_with fail
      refine (phc_impl _ _ HSB.out).mono ?_
      rintro e w' ⟨rfl, rfl⟩
      have hc := hown5.cellAt k (by omega)
      rw [lst_get _ _ _ hlt] at hc
      have hf := hown5.frozenAt k
      have hcell : ccell (stl ps u v) k = .complex .f32 (phz (ps[k].1 * u + ps[k].2 * v)).1 (phz (ps[k].1 * u + ps[k].2 * v)).2 := by simp [ccell, stl, List.getD, hlt]
      obtain ⟨hs1, hs2⟩ := hown5.stored k (ccell (stl ps u v) k)
      rw [mix_set _ _ _ _ hlt] at hs1
      have hne := (own_base hown5 _ rfl).1
      have hs2' := gb_new hgr hs2 (by intro g e; injection e with e; simp; omega)
      rw [hcell] at hs1 hs2'
      clear hs2 hcell hown hown5 hgr hg6
      have HS := Lib.hid hs1
      have HG := Lib.hid hs2'
      clear hs1 hs2'
      go_wp2_with fail
      go_roundw
      case rel => exact ⟨k + 1, by omega, by go_num, HS.out, HG.out⟩
      case measure => simp [intOf]; omega
    · obtain rfl : k = ps.length := by omega
      rw [mix_full] at hown
      go_wp2
      go_ret
      exact ⟨_, _, rfl, own_mono hown (by omega), hbox.trans hg⟩
theorem cpx_one (x y : Nat) : ∀ u ∈ [Value.complex .f32 x y], u.oneCell' = true := by
  intro u hu
  have : u = .complex .f32 x y := by simpa using hu
  subst this
  rfl

set_option maxHeartbeats 2000000 in
set_option maxRecDepth 100000 in
theorem stg_spec (A : Option Addr) (c B : Nat) (ps : List (Int × Int)) (u v : Int) (w : World) (hr : Rd w B A (ps.length * 2) (pcell ps)) (hB : B ≤ w.heap.size) (hv : vp ps = true) (hd : dirB u v = true) :
    Calls Try.prog 185 #[.slice A ps.length c, .agg #[.int .i64 u, .int .i64 v]] w fun e w' => ∃ A' c', e = .returned (.slice A' ps.length c') ∧
      w'.ownsRow w.heap.size 71 1 (.slice A' ps.length c') ps.length (lst (ccell (stl ps u v)) ps.length) ∧ w.grownBy w' none := by
  obtain ⟨i0, hi0, hz0, hz1, hz2⟩ := info_parts infoC
  have hl16 := (vp_yes hv).2.1
  have hbox := World.grownBy_alloc w (.cells #[.int .i64 u, .int .i64 v] 41) none
  have HVP := Lib.hid hv
  have HD := Lib.hid hd
  clear hv hd
  go_enter Try.func185, Try.ntmps185
  go_wp2_with fail
  go_loopw [5, 6] (fun s i wr => ∃ k : Nat, k ≤ ps.length ∧ i = .int .i64 k ∧ wr.ownsRow (w.heap.size + 1) 71 1 s (stl (ps.take k) u v).length (lst (ccell (stl (ps.take k) u v)) (stl (ps.take k) u v).length) ∧ (w.alloc (.cells #[.int .i64 u, .int .i64 v] 41)).grownBy wr none) (fun _ i _ => ps.length - (intOf i).toNat)
  case atStart =>
    have h := World.ownsRow_lit (base := w.heap.size + 1) (e := 71) (size := 1) (w.alloc (.cells #[.int .i64 u, .int .i64 v] 41)) #[] 0 (by simp) (Nat.zero_le _) rfl
    rw [World.size_alloc] at h
    exact ⟨0, Nat.zero_le _, rfl, h, World.grownBy_alloc _ _ _⟩
  case round =>
    obtain ⟨k, hk, rfl, hown, hg⟩ := hrel
    by_cases hlt : k < ps.length
    · obtain ⟨ad, rfl, hab, hx, hy⟩ := Rd.pair (hr.kept0 (hbox.trans hg) hB) hlt
      have hok := ok_at HVP.out k hlt
      obtain ⟨sb, p1, p2⟩ := steps_bd hok HD.out
      have G := fun w => steps.steps_sum ps[k].1 ps[k].2 u v w p1 p2
      have hquo := run_ok (P := Try.prog) (sx_ok _ sb).1 rfl
      have HST := Lib.hid G
      have HSB := Lib.hid sb
      have hd0 := (boxed2 hg).1
      have hd1 := (boxed2 hg).2
      have hln : (stl (ps.take k) u v).length ≤ 16 := by rw [stl_len]; simp; omega
      have g1 : (stl (ps.take k) u v).length + 1 ≤ maxLen := by unfold maxLen; omega
      have g2 : ((stl (ps.take k) u v).length + 1) * 8 ≤ 140737488355328 := by omega
      have hs := ccell_snoc (stl (ps.take k) u v) (phz (ps[k].1 * u + ps[k].2 * v)).1 (phz (ps[k].1 * u + ps[k].2 * v)).2
      rw [← stl_take ps u v k hlt] at hs
      have hll : (stl (ps.take (k + 1)) u v).length = (stl (ps.take k) u v).length + 1 := by rw [stl_take ps u v k hlt]; simp
      have hown0 := hown.lt
      have q1 : (0 : Int) ≤ (k : Int) := by omega
      have q2 : (k : Int) < (ps.length : Int) := by omega
      have HS := Lib.hid hs
      have HL := Lib.hid hll
      have hBB : ad.block < w.heap.size := by omega
      have hsz : w.heap.size + 1 ≤ wr.heap.size := by have := hg.size; simpa using this
      have hfb : (ad.add (k * 2)).block = ad.block := add_block _ _
      have HB' := Lib.hid hfb
      have HO := Lib.hid hown0
      clear G sb hok p1 p2 hs hll hfb hown0
      go_wp2
      go_region_held3 (fun w' => w'.cell? (ad.add (k * 2)) = some (.int .i64 ps[k].1) ∧ w'.cell? ⟨(ad.add (k * 2)).block, (ad.add (k * 2)).off + 1, none⟩ = some (.int .i64 ps[k].2) ∧
          w'.cell? ⟨w.heap.size, 0, none⟩ = some (.int .i64 u) ∧ w'.cell? ⟨w.heap.size, 1, none⟩ = some (.int .i64 v))
        (first
          | go_keep
          | (go_split_ands
             exact ⟨hg5.cell (by assumption) (by simp), hg5.cell (by assumption) (by simp), hg5.cell (by assumption) (by simp), hg5.cell (by assumption) (by simp)⟩)
          | (go_split_ands
             exact ⟨hgrow.cell (by assumption) (fun e => by have := (HO.out _ e.symm).1; simp only [HB'.out] at this; omega), hgrow.cell (by assumption) (fun e => by have := (HO.out _ e.symm).1; simp only [HB'.out] at this; omega),
               hgrow.cell (by assumption) (fun e => by have := (HO.out _ e.symm).1; simp only at this; omega), hgrow.cell (by assumption) (fun e => by have := (HO.out _ e.symm).1; simp only at this; omega)⟩))
        ((first
          | (go_at_call 258; refine (HST.out _).mono ?_; rintro e w5 ⟨rfl, hg5⟩; have hown5 := own_kept0 hown.drew hg5; have hb5 := Nat.le_trans hsz hg5.size)
          | (go_at_call 212; refine (phc_spec _ _ HSB.out).mono ?_; rintro e w' ⟨rfl, rfl⟩)
          | (refine step_append_lies _ (by rfl) _ _ _ (by rfl) (w.heap.size + 1) 71 i0 _ 1 8 Try.underlying68 hi0 hz0 hz1 hz2 rfl Nat.one_pos _ _ _ (by rfl) (hown5.alloc _)
              ⟨w5.heap.size, 0, none⟩ 1 1 [.complex .f32 (phz (ps[k].1 * u + ps[k].2 * v)).1 (phz (ps[k].1 * u + ps[k].2 * v)).2] (by rfl) (by rfl) (World.news_of_block (cs := #[.complex .f32 (phz (ps[k].1 * u + ps[k].2 * v)).1 (phz (ps[k].1 * u + ps[k].2 * v)).2]) (t := 71) (fr := (0, 0)) (heap_alloc_new w5 _)) (cpx_one _ _)
              Nat.one_pos g1 g2 (Nat.le_trans hb5 (by simp)) (w5.heap.size + 1) (by simp) ?_; intro gg cap w6 hown6 hgrow hat hltg)))
      go_wp2
      go_roundw
      case rel =>
        refine ⟨k + 1, by omega, by go_num, ?_, ?_⟩
        · rw [HS.out, HL.out]; exact hown6
        · exact gb_new ((hg.trans ((gb_drewN _ 1 _).trans hg5)).trans (World.grownBy_alloc _ _ _)) hgrow (fun g e => by have := (HO.out _ e).1; simp; omega)
      case measure => simp [intOf]; omega
    · obtain rfl : k = ps.length := by omega
      rw [List.take_length] at hown
      obtain ⟨A', cc, rfl⟩ := own_form hown
      have hls := stl_len ps u v
      rw [hls] at hown
      rw [hls]
      go_wp2
      go_ret
      exact ⟨_, _, rfl, own_mono hown (by omega), hbox.trans hg⟩

end Go.Proofs.Ytkjmlpdbnnmlhab.steering
