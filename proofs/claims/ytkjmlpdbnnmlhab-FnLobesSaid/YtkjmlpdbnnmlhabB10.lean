/- What the laws of the document's chapters draw from their inputs: numbers, valid places, numbers in sixteenths. -/
import Derived.Test.YtkjmlpdbnnmlhabRows
import Derived.Test.YtkjmlpdbnnmlhabSlc
import Derived.Test.YtkjmlpdbnnmlhabSmall
import Derived.Test.YtkjmlpdbnnmlhabOpens
import Derived.Test.YtkjmlpdbnnmlhabPlaceAll
import Derived.Test.YtkjmlpdbnnmlhabR8
import Derived.Test.YtkjmlpdbnnmlhabSrc
import Derived.Test.YtkjmlpdbnnmlhabFloatAll
import Derived.Test.YtkjmlpdbnnmlhabFWalk
import Derived.Test.YtkjmlpdbnnmlhabFinWalk
import Derived.Test.YtkjmlpdbnnmlhabFlAll
import Derived.Test.YtkjmlpdbnnmlhabPhasor
import Derived.Test.YtkjmlpdbnnmlhabListC
import Derived.Test.YtkjmlpdbnnmlhabSteerNum
import Derived.Test.YtkjmlpdbnnmlhabSineIn
import Derived.Test.YtkjmlpdbnnmlhabPolyNum
import Derived.Test.YtkjmlpdbnnmlhabPolyW
import Derived.Test.YtkjmlpdbnnmlhabPoly1
import Derived.Test.YtkjmlpdbnnmlhabGPoly
import Derived.Test.YtkjmlpdbnnmlhabGNum
import Derived.Test.YtkjmlpdbnnmlhabSrcW
import Derived.Test.YtkjmlpdbnnmlhabRq
import Derived.Test.YtkjmlpdbnnmlhabFine
import Derived.Test.YtkjmlpdbnnmlhabDrawOk
import Derived.WalkKit
import Derived.ProofKit
import Derived.OpenShut
import Derived.ShutString
import Derived.ChangeOld
import Derived.Below
import Derived.Lib.Hide
import Derived.BigQuiet
import Derived.Deep.QuietTactic
import Derived.WalkLawsBesides
import Derived.Outline
import Derived.Deep.LoopGhost
import Derived.Laws.ComplexArith
namespace Go.Proofs.Ytkjmlpdbnnmlhab.b10
open Go.ChangeShapes Go.WideShapes Go.ChangeAt Go.RowKit
open Go.ChangeMaps (open_string shut_string)
set_option linter.unusedVariables false
open Go Ieee Go.RowKit
open Go.Proofs.Ytkjmlpdbnnmlhab.slc Go.Proofs.Ytkjmlpdbnnmlhab.r8 Go.Proofs.Ytkjmlpdbnnmlhab.src Go.Proofs.Ytkjmlpdbnnmlhab.floats Go.Proofs.Ytkjmlpdbnnmlhab.round Go.Proofs.Ytkjmlpdbnnmlhab.values Go.Proofs.Ytkjmlpdbnnmlhab.conv Go.Proofs.Ytkjmlpdbnnmlhab.fWalk Go.Proofs.Ytkjmlpdbnnmlhab.float2 Go.Proofs.Ytkjmlpdbnnmlhab.float3 Go.Proofs.Ytkjmlpdbnnmlhab.phase Go.Proofs.Ytkjmlpdbnnmlhab.sine Go.Proofs.Ytkjmlpdbnnmlhab.phasor Go.Proofs.Ytkjmlpdbnnmlhab.listC Go.Proofs.Ytkjmlpdbnnmlhab.sineIn Go.Proofs.Ytkjmlpdbnnmlhab.polyNum Go.Proofs.Ytkjmlpdbnnmlhab.polyW Go.Proofs.Ytkjmlpdbnnmlhab.poly1 Go.Proofs.Ytkjmlpdbnnmlhab.gPoly Go.Proofs.Ytkjmlpdbnnmlhab.gNum Go.Proofs.Ytkjmlpdbnnmlhab.srcW Go.Proofs.Ytkjmlpdbnnmlhab.rq
open Go.Proofs.Ytkjmlpdbnnmlhab.small Go.Proofs.Ytkjmlpdbnnmlhab.opens Go.Proofs.Ytkjmlpdbnnmlhab.places Go.Proofs.Ytkjmlpdbnnmlhab.placeSet Go.Proofs.Ytkjmlpdbnnmlhab.listP Go.Proofs.Ytkjmlpdbnnmlhab.srcW Go.Proofs.Ytkjmlpdbnnmlhab.drawOk Go.Proofs.Ytkjmlpdbnnmlhab.fine

/-- The number below n that a byte chooses, or its index behind the end. -/
def b10 (z : List Int) (k : Nat) (n : Int) : Int := if k < z.length then z.getD k 0 % n else ((k : Int) * 37 + 11) % n
theorem b10_bd {z : List Int} (k : Nat) (n : Int) (hn : 1 ≤ n) : 0 ≤ b10 z k n ∧ b10 z k n < n := by
  unfold b10
  split
  · exact ⟨Int.emod_nonneg _ (by omega), Int.emod_lt_of_pos _ (by omega)⟩
  · exact ⟨Int.emod_nonneg _ (by omega), Int.emod_lt_of_pos _ (by omega)⟩
set_option maxRecDepth 100000 in
theorem b10_at (A : Option Addr) (c B : Nat) (z : List Int) (k : Nat) (n : Int) (w : World) (hk16 : k ≤ 1000) (hm : z.length ≤ 1048576) (hn : 2 ≤ n) (hn2 : n ≤ 1000000) (hz : Byt z) (hr : Rd w B A z.length (bt z)) :
    Calls Try.prog 17 #[.slice A z.length c, .int .i64 k, .int .i64 n] w fun e w' => e = .returned (.int .i64 (b10 z k n)) ∧ w = w' := by
  by_cases hk : k < z.length
  · obtain ⟨ad, rfl, _, hc⟩ := hr.at_ hk
    have hv : b10 z k n = z[k] % n := by
      unfold b10
      rw [if_pos hk]
      simp [List.getD, hk]
    have hb := hz _ (List.getElem_mem hk)
    have hc' : w.cell? (ad.add k) = some (.int .u8 z[k]) := by rw [hc]; unfold bt; simp [List.getD, hk]
    have b1 := hb.1
    have b2 := hb.2
    have t1 := Int.emod_nonneg z[k] (show n ≠ 0 by omega)
    have t2 := Int.emod_lt_of_pos z[k] (show 0 < n by omega)
    have k0 : (0 : Int) ≤ k := by omega
    have k1 : (k : Int) < z.length := by omega
    have HV := Lib.hid hv
    clear hv hc hb
    generalize z[k] = x at *
    go_enter Try.func17, Try.ntmps17
    go_wp2
    go_ret
    exact ⟨by rw [HV.out]; rfl, rfl⟩
  · have hv : b10 z k n = ((k : Int) * 37 + 11) % n := by unfold b10; rw [if_neg hk]
    have k1 : ¬ (k : Int) < z.length := by omega
    have t1 := Int.emod_nonneg ((k : Int) * 37 + 11) (show n ≠ 0 by omega)
    have t2 := Int.emod_lt_of_pos ((k : Int) * 37 + 11) (show 0 < n by omega)
    rw [hv]
    go_enter Try.func17, Try.ntmps17
    go_wp2
    go_ret
    exact ⟨rfl, rfl⟩
theorem long_no (A A' : Option Addr) (n c m d : Nat) (w : World) (h1 : n ≤ 1048576) (h2 : m ≤ 1048576) :
    Calls Try.prog 15 #[.slice A n c, .slice A' m d] w fun e w' => e = .returned (.bool false) ∧ w = w' := by
  have h1' : (n : Int) ≤ 1048576 := by omega
  have h2' : (m : Int) ≤ 1048576 := by omega
  go_enter Try.func15, Try.ntmps15
  go_wp2
  go_ret
  simp_all
theorem long_yes (A A' : Option Addr) (n c m d : Nat) (w : World) (h : 1048576 < n ∨ 1048576 < m) (hn : n ≤ 9223372036854775807) (hm : m ≤ 9223372036854775807) :
    Calls Try.prog 15 #[.slice A n c, .slice A' m d] w fun e w' => e = .returned (.bool true) ∧ w = w' := by
  by_cases h1 : 1048576 < n
  · have h1' : (1048576 : Int) < n := by omega
    clear h
    go_enter Try.func15, Try.ntmps15
    go_wp2
    go_ret
    simp_all
  · have h1' : (n : Int) ≤ 1048576 := by omega
    have h2' : (1048576 : Int) < m := by omega
    clear h
    go_enter Try.func15, Try.ntmps15
    go_wp2
    go_ret
    simp_all

theorem places_b10 (A : Option Addr) (c : Nat) (z : List Int) (w : World) (hl : z.length ≤ 1048576) (hz : Byt z) (hr : Rd w w.heap.size A z.length (bt z)) :
    Calls Try.prog 38 #[.slice A z.length c] w fun e w' => ∃ (ps : List (Int × Int)) (A' : Option Addr) (c' : Nat), vp ps = true ∧ e = .returned (.slice A' ps.length c') ∧ w'.ownsRow w.heap.size 86 2 (.slice A' ps.length c') ps.length (lst (pcell ps) (ps.length * 2)) ∧ w.grownBy w' none := by
  go_enter Try.func38, Try.ntmps38
  go_wp2_with fail
  refine (from_is A z.length c w).mono ?_
  rintro e w0 ⟨rfl, hs0, hg0⟩
  have hd := draw_ok A c w.heap.size w.heap.size 0 z w0 (by omega) hl hz (hr.kept0 hg0 (Nat.le_refl _)) (Nat.le_refl _) hs0
  have HD := Lib.hid hd
  have hlt := hs0.lt
  clear hd
  go_wp2_with fail
  refine HD.out.mono ?_
  rintro e w1 ⟨ps, A1, c1, hv, rfl, ho, hg⟩
  have hv1 := hv.1
  have h16 := (vp_yes hv1).2.1
  have HI := Lib.hid (is_spec A1 c1 w1.heap.size ps w1 (by omega) (Rd.of_lst ho rfl) (Nat.le_refl _))
  rw [hv1] at HI
  have HO := Lib.hid (own_mono ho (Nat.le_of_lt hlt))
  have HG := Lib.hid (gb_new hg0 hg (fun g e => by injection e with e; omega))
  clear ho hg hv
  go_wp2_with fail
  refine HI.out.mono ?_
  rintro e w2 ⟨rfl, hg2⟩
  go_wp2_with fail
  go_ret
  exact ⟨ps, A1, c1, hv1, rfl, own_kept0 HO.out hg2, HG.out.trans hg2⟩

set_option maxHeartbeats 2000000 in
set_option maxRecDepth 100000 in
theorem fine_b10 (A : Option Addr) (c : Nat) (z : List Int) (n : Nat) (w : World) (hn : n ≤ 64) (hl : z.length ≤ 1048576) (hz : Byt z) (hr : Rd w w.heap.size A z.length (bt z)) :
    Calls Try.prog 47 #[.slice A z.length c, .int .i64 n] w fun e w' => ∃ (zs : List G) (A' : Option Addr) (c' : Nat), zs.length = n ∧ (∀ x ∈ zs, InG x) ∧ e = .returned (.slice A' n c') ∧ w'.ownsRow w.heap.size 71 1 (.slice A' n c') n (lst (ccell (zs.map fW)) n) ∧ w.grownBy w' none := by
  obtain ⟨i0, hi0, hz0, hz1, hz2⟩ := info_parts infoC
  go_enter Try.func47, Try.ntmps47
  go_wp2_with fail
  refine (from_is A z.length c w).mono ?_
  rintro e w0 ⟨rfl, hs0, hg0⟩
  generalize hb : w.heap.size = b at *
  have hr0 := hr.kept0 hg0 (by omega)
  have hlt := hs0.lt
  clear hr
  go_wp2_with fail
  go_loopw [1, 6] (fun i v wr => ∃ (k : Nat) (zs : List G), k ≤ n ∧ zs.length = k ∧ (∀ x ∈ zs, InG x) ∧ i = .int .i64 ((n : Int) - k) ∧ wr.ownsRow (b + 1) 71 1 v k (lst (ccell (zs.map fW)) k) ∧ Src wr b A z.length c (4 * k) ∧ Rd wr b A z.length (bt z) ∧ w.grownBy wr none) (fun i _ _ => (intOf i).toNat)
  case atStart =>
    have ga := World.grownBy_alloc w0 (.cells #[] 71) none
    refine ⟨0, [], Nat.zero_le _, rfl, by simp, by simp, ?_, hs0.keep0 ga, hr0.kept0 ga (by omega), hg0.trans ga⟩
    exact World.ownsRow_lit (base := b + 1) (e := 71) (size := 1) w0 #[] 0 (show b + 1 ≤ w0.heap.size by omega) (Nat.zero_le _) rfl
  case round =>
    obtain ⟨k, zs, hk, hlen, hsm, rfl, hown, hsrc, hrr, hg⟩ := hrel
    by_cases hkt : k < n
    · have k0 : 0 < (n : Int) - k := by omega
      have hp := fine_one A c b b (4 * k) z wr (by omega) hl hz hrr (Nat.le_refl _) hsrc
      have HP := Lib.hid hp
      have HO := Lib.hid hown
      have HG := Lib.hid hg
      clear hp hown hsrc hrr hg
      go_wp2_with fail
      refine HP.out.mono ?_
      rintro e w2 ⟨g, hgf, rfl, s2, R2, g2⟩
      have G2 := gb_new HG.out g2 (by intro q e; injection e with e; omega)
      have O2 := own_far HO.out g2 (Nat.lt_succ_self b)
      have hb2 := s2.lt
      have hbs : b + 1 ≤ (w2.alloc (.cells #[.complex .f32 (fW g).1 (fW g).2] 71)).heap.size := by simp; omega
      have hsn := snoc_fine zs g k hlen
      have HSN := Lib.hid hsn
      have hne := own_not O2
      have HNE := Lib.hid hne
      have HS2 := Lib.hid s2
      have HG2 := Lib.hid G2
      have HR2 := Lib.hid R2
      have ga := World.grownBy_alloc w2 (.cells #[.complex .f32 (fW g).1 (fW g).2] 71) none
      have HGA := Lib.hid ga
      clear hsn s2 g2 R2 G2 ga hne HO HG HP
      generalize hgw : fW g = GW at *
      go_wp2_with (at_builtin; refine wpList_append_own _ rfl _ _ 68 rfl (b + 1) 71 i0 (.complex .f32 0 0) 1 8 Try.underlying68 hi0 hz0 hz1 hz2 rfl (by decide) _ _ _ rfl (O2.alloc _) ⟨w2.heap.size, 0, none⟩ 1 1 [.complex .f32 GW.1 GW.2] rfl rfl (cell_one_new _ _ _) (cpx_one _ _) (by unfold maxLen; omega) (by omega) hbs ?_; intro v' w4 hown' hgrow _)
      rw [HSN.out] at hown'
      have S4 := (HS2.out.keep0 HGA.out).keep hgrow (fun e => HNE.out e.symm)
      have R4 := (HR2.out.kept0 HGA.out (by omega)).kept hgrow (by simp; omega) (by intro b' hb' hlt e; have := (O2.lt b' e.symm).1; omega)
      have G4 := gb_new (HG2.out.trans HGA.out) hgrow (by intro g e; have := (O2.lt g e).1; omega)
      go_wp2_with fail
      go_roundw
      case rel => exact ⟨k + 1, zs ++ [g], by omega, by simp [hlen], (by intro x hx; rcases List.mem_append.1 hx with h | h; exact hsm x h; rw [List.mem_singleton.1 h]; exact hgf), by go_num, hown', S4.mono (by omega), R4, G4⟩
      case measure => simp [intOf]; omega
    · obtain rfl : k = n := by omega
      have k1 : ¬ 0 < (k : Int) - k := by omega
      obtain ⟨A', c', rfl⟩ := own_form hown
      go_wp2_with fail
      go_ret
      exact ⟨zs, hlen, fun a b h => hsm _ h, A', c', rfl, own_mono hown (by omega), hg⟩

end Go.Proofs.Ytkjmlpdbnnmlhab.b10
