/- Directions and small cuts that laws draw from their inputs. -/
import Derived.Test.YtkjmlpdbnnmlhabRows
import Derived.Test.YtkjmlpdbnnmlhabSlc
import Derived.Test.YtkjmlpdbnnmlhabSmall
import Derived.Test.YtkjmlpdbnnmlhabOpens
import Derived.Test.YtkjmlpdbnnmlhabPlaceAll
import Derived.Test.YtkjmlpdbnnmlhabR8
import Derived.Test.YtkjmlpdbnnmlhabSrc
import Derived.Test.YtkjmlpdbnnmlhabFloatAll
import Derived.Test.YtkjmlpdbnnmlhabFWalk
import Derived.Test.YtkjmlpdbnnmlhabFinWalk
import Derived.Test.YtkjmlpdbnnmlhabFlAll
import Derived.Test.YtkjmlpdbnnmlhabPhasor
import Derived.Test.YtkjmlpdbnnmlhabListC
import Derived.Test.YtkjmlpdbnnmlhabSteerNum
import Derived.Test.YtkjmlpdbnnmlhabSineIn
import Derived.Test.YtkjmlpdbnnmlhabPolyNum
import Derived.Test.YtkjmlpdbnnmlhabPolyW
import Derived.Test.YtkjmlpdbnnmlhabPoly1
import Derived.Test.YtkjmlpdbnnmlhabGPoly
import Derived.Test.YtkjmlpdbnnmlhabGNum
import Derived.Test.YtkjmlpdbnnmlhabSrcW
import Derived.Test.YtkjmlpdbnnmlhabRq
import Derived.Test.YtkjmlpdbnnmlhabFine
import Derived.Test.YtkjmlpdbnnmlhabDrawOk
import Derived.Test.YtkjmlpdbnnmlhabDrawR8
import Derived.Test.YtkjmlpdbnnmlhabCut
import Derived.Test.YtkjmlpdbnnmlhabListF
import Derived.WalkKit
import Derived.ProofKit
import Derived.OpenShut
import Derived.ShutString
import Derived.ChangeOld
import Derived.Below
import Derived.Lib.Hide
import Derived.BigQuiet
import Derived.Deep.QuietTactic
import Derived.WalkLawsBesides
import Derived.Outline
import Derived.Deep.LoopGhost
import Derived.Laws.ComplexArith
namespace Go.Proofs.Ytkjmlpdbnnmlhab.cutDraw
open Go.ChangeShapes Go.WideShapes Go.ChangeAt Go.RowKit
open Go.ChangeMaps (open_string shut_string)
set_option linter.unusedVariables false
open Go Ieee Go.RowKit
open Go.Proofs.Ytkjmlpdbnnmlhab.slc Go.Proofs.Ytkjmlpdbnnmlhab.r8 Go.Proofs.Ytkjmlpdbnnmlhab.src Go.Proofs.Ytkjmlpdbnnmlhab.floats Go.Proofs.Ytkjmlpdbnnmlhab.round Go.Proofs.Ytkjmlpdbnnmlhab.values Go.Proofs.Ytkjmlpdbnnmlhab.conv Go.Proofs.Ytkjmlpdbnnmlhab.fWalk Go.Proofs.Ytkjmlpdbnnmlhab.float2 Go.Proofs.Ytkjmlpdbnnmlhab.float3 Go.Proofs.Ytkjmlpdbnnmlhab.phase Go.Proofs.Ytkjmlpdbnnmlhab.sine Go.Proofs.Ytkjmlpdbnnmlhab.phasor Go.Proofs.Ytkjmlpdbnnmlhab.listC Go.Proofs.Ytkjmlpdbnnmlhab.sineIn Go.Proofs.Ytkjmlpdbnnmlhab.polyNum Go.Proofs.Ytkjmlpdbnnmlhab.polyW Go.Proofs.Ytkjmlpdbnnmlhab.poly1 Go.Proofs.Ytkjmlpdbnnmlhab.gPoly Go.Proofs.Ytkjmlpdbnnmlhab.gNum Go.Proofs.Ytkjmlpdbnnmlhab.srcW Go.Proofs.Ytkjmlpdbnnmlhab.rq
open Go.Proofs.Ytkjmlpdbnnmlhab.small Go.Proofs.Ytkjmlpdbnnmlhab.opens Go.Proofs.Ytkjmlpdbnnmlhab.places Go.Proofs.Ytkjmlpdbnnmlhab.placeSet Go.Proofs.Ytkjmlpdbnnmlhab.listP Go.Proofs.Ytkjmlpdbnnmlhab.drawOk Go.Proofs.Ytkjmlpdbnnmlhab.fine Go.Proofs.Ytkjmlpdbnnmlhab.drawR8 Go.Proofs.Ytkjmlpdbnnmlhab.listF

attribute [local go_sem] build_dir1
set_option maxHeartbeats 2000000 in
theorem dir_b10 (A : Option Addr) (c : Nat) (z : List Int) (w : World) (hl : z.length ≤ 1048576) (hz : Byt z) (hr : Rd w w.heap.size A z.length (bt z)) :
    Calls Try.prog 30 #[.slice A z.length c] w fun e w' => ∃ u v : Int, (-35 ≤ u ∧ u ≤ 35) ∧ (-35 ≤ v ∧ v ≤ 35) ∧ e = .returned (.agg #[.int .i64 u, .int .i64 v]) ∧ w.grownBy w' none := by
  have ga := World.grownBy_alloc w (.cells #[.int .i64 0, .int .i64 0] 41) none
  have da := Dx.new w 0 0
  obtain ⟨wa, hwa⟩ : ∃ wa, w.alloc (.cells #[.int .i64 0, .int .i64 0] 41) = wa := ⟨_, rfl⟩
  rw [hwa] at ga da
  have hra := hr.kept0 ga (Nat.le_refl _)
  have hfr := from_is A z.length c wa
  have HF := Lib.hid hfr
  have HA := Lib.hid hwa
  have HD := Lib.hid da
  clear hfr hwa da
  go_enter Try.func30, Try.ntmps30
  go_wp2_with fail
  rw [HA.out]
  refine HF.out.mono ?_
  rintro e w0 ⟨rfl, hs0, hg0⟩
  have hwa2 := HD.out.lt
  have d0 := HD.out.keep hg0 (by simp)
  have r0 := hra.kept0 hg0 (Nat.le_of_lt hwa2)
  have g0 := ga.trans hg0
  have hb0 := hs0.lt
  generalize hb : wa.heap.size = b at *
  have hp := pick_is A c w.heap.size b 0 z 71 w0 (by omega) hl hz r0 (by omega) hs0 (by decide) (by decide)
  have HP := Lib.hid hp
  clear hp HF HA HD hra ga hg0
  go_wp2_with fail
  refine HP.out.mono ?_
  rintro e w1 ⟨v1, v10, v11, rfl, s1, g1⟩
  have r1 := keepR r0 g1 (by omega) hb0
  have d1 := d0.keep g1 (by intro e; injection e with e; omega)
  have gg1 := gb_new g0 g1 (by intro q e; injection e with e; omega)
  have hb1 := s1.lt
  have ga := World.grownBy_alloc w1 (.cells #[.int .i64 (v1 - 35), .int .i64 0] 41) none
  have e1 := Dx.new w1 (v1 - 35) 0
  have s2 := s1.keep0 ga
  have r2 := r1.kept0 ga (by omega)
  have d2 := d1.keep ga (by simp)
  have gg2 := gg1.trans ga
  obtain ⟨w2, hw2⟩ : ∃ w2, w1.alloc (.cells #[.int .i64 (v1 - 35), .int .i64 0] 41) = w2 := ⟨_, rfl⟩
  rw [hw2] at e1 s2 r2 d2 gg2
  have hp := pick_is A c w.heap.size b 2 z 71 w2 (by omega) hl hz r2 (by omega) s2 (by decide) (by decide)
  have HP2 := Lib.hid hp
  have HW := Lib.hid hw2
  have HE := Lib.hid (And.intro e1 (And.intro d2 gg2))
  clear hp HP ga hw2 e1 d2 gg2 gg1 d1 r1 s1 r0 d0 g0 g1
  go_wp2_with fail
  rw [HW.out]
  refine HP2.out.mono ?_
  rintro e w3 ⟨v2, v20, v21, rfl, s3, g3⟩
  obtain ⟨e1, d2, gg2⟩ := HE.out
  have e3 := e1.keep g3 (by intro e; injection e with e; omega)
  have d3 := d2.keep g3 (by intro e; injection e with e; omega)
  have gg3 := gb_new gg2 g3 (by intro q e; injection e with e; omega)
  generalize hd1 : w1.heap.size = h1 at *
  generalize hr1 : w.heap.size = r at *
  have hne : ¬ h1 = r := by omega
  have hne' : ¬ r = h1 := by omega
  obtain ⟨cx, cy, fx, fy⟩ := e3.facts
  obtain ⟨px, py, qx, qy⟩ := d3.facts
  obtain ⟨e4, g4⟩ := e3.put2 (v2 - 35)
  have d4 := d3.keep g4 (by intro e; injection e with e; omega)
  obtain ⟨d5, g5⟩ := d4.put1 (v1 - 35)
  obtain ⟨d6, g6⟩ := d5.put2 (v2 - 35)
  have gg6 := gb_new (gb_new (gb_new gg3 g4 (by intro q e; injection e with e; omega)) g5 (by intro q e; injection e with e; omega)) g6 (by intro q e; injection e with e; omega)
  have HG := Lib.hid (And.intro gg6 d6.facts)
  clear HW HE HP2 gg6 d6 g6 d5 g5 d4 g4 e4 gg3 d3 e3 g3 s3 e1 d2 gg2 s2 r2
  go_wp2_with fail
  obtain ⟨hg6, c6, c7, _, _⟩ := HG.out
  exact bodyPost_ret (v := .agg #[.int .i64 (v1 - 35), .int .i64 (v2 - 35)]) (by simp [results, Try.results30, go_sem, c6, c7]) rfl ⟨v1 - 35, v2 - 35, by omega, by omega, rfl, hg6⟩

/-! ## cuts of small numbers -/
def fw (k : Nat) : Nat := floatOfInt .f32 (k : Int)
def kcs (vs : List Nat) : List Value := vs.map fun k => .float .f32 (fw k)
def kx (vs : List Nat) (j : Nat) : Nat := fw (vs.getD j 0)
theorem kcs_lst (vs : List Nat) : kcs vs = lst (fl (kx vs)) vs.length := by
  apply List.ext_getElem?
  intro i
  by_cases h : i < vs.length
  · rw [lst_get _ _ _ h]
    simp [kcs, fl, kx, List.getD, h]
  · rw [List.getElem?_eq_none (by simp [kcs]; omega), List.getElem?_eq_none (by rw [lst_len]; omega)]
theorem cvi32 (w : World) (n : Int) : (convert 2 61 (.int .i64 n)).run Try.prog w = .ok (.float .f32 (floatOfInt .f32 n)) w :=
  run_convert_int_float w _ _ .i64 .f32 n (by rw [Try.underlying2]; rfl) Try.underlying61
attribute [local go_sem] cvi32
set_option maxHeartbeats 2000000 in
set_option maxRecDepth 100000 in
theorem cut_b10 (A : Option Addr) (c : Nat) (z : List Int) (w : World) (hl : z.length ≤ 1048576) (hz : Byt z) (hr : Rd w w.heap.size A z.length (bt z)) :
    Calls Try.prog 32 #[.slice A z.length c] w fun e w' => ∃ (vs : List Nat) (A' : Option Addr) (c' : Nat), 1 ≤ vs.length ∧ vs.length ≤ 12 ∧ (∀ x ∈ vs, x < 8) ∧ e = .returned (.slice A' vs.length c') ∧ w'.ownsRow w.heap.size 61 1 (.slice A' vs.length c') vs.length (lst (fl (kx vs)) vs.length) ∧ w.grownBy w' none := by
  obtain ⟨i0, hi0, hz0, hz1, hz2⟩ := info_parts info32
  go_enter Try.func32, Try.ntmps32
  go_wp2_with fail
  refine (from_is A z.length c w).mono ?_
  rintro e w0 ⟨rfl, hs0, hg0⟩
  generalize hb : w.heap.size = b at *
  have hr0 := hr.kept0 hg0 (by omega)
  have hlt := hs0.lt
  clear hr
  have ga := World.grownBy_alloc w0 (.cells #[] 61) none
  have hp := pick_is A c b b 0 z 12 (w0.alloc (.cells #[] 61)) (by omega) hl hz (hr0.kept0 ga (by omega)) (Nat.le_refl _) (hs0.keep0 ga) (by decide) (by decide)
  have HP := Lib.hid hp
  have ho0 := World.ownsRow_lit (base := b + 1) (e := 61) (size := 1) w0 #[] 0 (show b + 1 ≤ w0.heap.size by omega) (Nat.zero_le _) rfl
  have HQ := Lib.hid (And.intro (hr0.kept0 ga (by omega)) (And.intro (hg0.trans ga) ho0))
  clear hp ga hs0 hr0 hg0 ho0
  go_wp2_with fail
  refine HP.out.mono ?_
  rintro e w1 ⟨v1, v10, v11, rfl, s1, g1⟩
  obtain ⟨hr1, hgg, ho1⟩ := HQ.out
  have r1 := keepR hr1 g1 (by omega) (by simp; omega)
  have o1 := own_far ho1 g1 (Nat.lt_succ_self b)
  have gg1 := gb_new hgg g1 (by intro q e; injection e with e; omega)
  obtain ⟨N, rfl⟩ : ∃ N : Nat, v1 = (N : Int) := ⟨v1.toNat, by omega⟩
  have hN : N < 12 := by omega
  have HI := Lib.hid (And.intro o1 (And.intro s1 (And.intro r1 gg1)))
  clear HP HQ hr1 hgg ho1 r1 o1 gg1 s1 g1 v10 v11
  go_wp2_with fail
  go_loopw [4, 5] (fun v i wr => ∃ (k : Nat) (vs : List Nat), k ≤ N + 1 ∧ vs.length = k ∧ (∀ x ∈ vs, x < 8) ∧ i = .int .i64 ((N : Int) + 1 - k) ∧ wr.ownsRow (b + 1) 61 1 v k (kcs vs) ∧ Src wr b A z.length c (2 + 2 * k) ∧ Rd wr b A z.length (bt z) ∧ w.grownBy wr none) (fun _ i _ => (intOf i).toNat)
  case atStart => exact ⟨0, [], Nat.zero_le _, rfl, by simp, by simp [Int.add_comm], HI.out.1, HI.out.2.1, HI.out.2.2.1, HI.out.2.2.2⟩
  case round =>
    obtain ⟨k, vs, hk, hlen, hsm, rfl, hown, hsrc, hrr, hg⟩ := hrel
    clear HI
    by_cases hkt : k < N + 1
    · have k0 : 0 < (N : Int) + 1 - k := by omega
      have HP := Lib.hid (pick_is A c b b (2 + 2 * k) z 8 wr (by omega) hl hz hrr (Nat.le_refl _) hsrc (by decide) (by decide))
      have HO := Lib.hid hown
      have HG := Lib.hid hg
      have HR := Lib.hid hrr
      have hbw := hsrc.lt
      clear hown hsrc hrr hg
      go_wp2_with fail
      refine HP.out.mono ?_
      rintro e w2 ⟨v, v0, v8, rfl, s2, g2⟩
      have R2 := keepR HR.out g2 (Nat.le_refl _) hbw
      have G2 := gb_new HG.out g2 (by intro q e; injection e with e; omega)
      have O2 := own_far HO.out g2 (Nat.lt_succ_self b)
      obtain ⟨y, rfl⟩ : ∃ y : Nat, v = (y : Int) := ⟨v.toNat, by omega⟩
      have hb2 := s2.lt
      have ga := World.grownBy_alloc w2 (.cells #[.float .f32 (fw y)] 61) none
      have hbs : b + 1 ≤ (w2.alloc (.cells #[.float .f32 (fw y)] 61)).heap.size := by simp; omega
      have HNE := Lib.hid (own_not O2)
      have HS2 := Lib.hid s2
      have HG2 := Lib.hid G2
      have HR2 := Lib.hid R2
      have HGA := Lib.hid ga
      have HSN := Lib.hid (show kcs vs ++ [.float .f32 (fw y)] = kcs (vs ++ [y]) by simp [kcs])
      have HY := Lib.hid (show floatOfInt .f32 (y : Int) = fw y from rfl)
      have hcv := fun w => cvi32 w (y : Int)
      rw [HY.out] at hcv
      clear s2 g2 R2 G2 ga HO HG HP HR
      generalize hgw : fw y = GW at *
      go_wp2_with (at_builtin; refine wpList_append_own _ rfl _ _ 58 rfl (b + 1) 61 i0 (.float .f32 0) 1 4 Try.underlying58 hi0 hz0 hz1 hz2 rfl (by decide) _ _ _ rfl (O2.alloc _) ⟨w2.heap.size, 0, none⟩ 1 1 [.float .f32 GW] rfl rfl (cell_one_new _ _ _) (by simp [Value.oneCell']) (by unfold maxLen; omega) (by omega) hbs ?_; intro v' w4 hown' hgrow _)
      rw [HSN.out] at hown'
      have S4 := (HS2.out.keep0 HGA.out).keep hgrow (fun e => HNE.out e.symm)
      have R4 := (HR2.out.kept0 HGA.out (by omega)).kept hgrow (by simp; omega) (by intro b' hb' hlt e; have := (O2.lt b' e.symm).1; omega)
      have G4 := gb_new (HG2.out.trans HGA.out) hgrow (by intro g e; have := (O2.lt g e).1; omega)
      go_wp2_with fail
      go_roundw
      case rel => exact ⟨k + 1, vs ++ [y], by omega, by simp [hlen], (by intro x hx; rcases List.mem_append.1 hx with h | h; exact hsm x h; rw [List.mem_singleton.1 h]; omega), by go_num, hown', S4.mono (by omega), R4, G4⟩
      case measure => simp [intOf]; omega
    · obtain rfl : k = N + 1 := by omega
      have k1 : ¬ 0 < (N : Int) + 1 - ((N + 1 : Nat) : Int) := by omega
      obtain ⟨A', c', rfl⟩ := own_form hown
      rw [kcs_lst, hlen] at hown
      go_wp2_with fail
      go_ret
      rw [← hlen] at hown
      exact ⟨vs, by omega, by omega, hsm, A', c', by rw [hlen]; rfl, own_mono hown (by omega), hg⟩

end Go.Proofs.Ytkjmlpdbnnmlhab.cutDraw
