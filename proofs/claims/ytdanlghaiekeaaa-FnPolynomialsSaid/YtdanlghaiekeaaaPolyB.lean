/- A polynomial times one of one zero, by the program. -/
import Derived.Test.YtdanlghaiekeaaaRows
import Derived.Test.YtdanlghaiekeaaaSlc
import Derived.Test.YtdanlghaiekeaaaSmall
import Derived.Test.YtdanlghaiekeaaaFloats
import Derived.Test.YtdanlghaiekeaaaRound
import Derived.Test.YtdanlghaiekeaaaValues
import Derived.Test.YtdanlghaiekeaaaConv
import Derived.Test.YtdanlghaiekeaaaFWalk
import Derived.Test.YtdanlghaiekeaaaFinWalk
import Derived.Test.YtdanlghaiekeaaaFloat2
import Derived.Test.YtdanlghaiekeaaaFloat3
import Derived.Test.YtdanlghaiekeaaaPhase
import Derived.Test.YtdanlghaiekeaaaSine
import Derived.Test.YtdanlghaiekeaaaPhasor
import Derived.Test.YtdanlghaiekeaaaListC
import Derived.Test.YtdanlghaiekeaaaSteerNum
import Derived.Test.YtdanlghaiekeaaaSineIn
import Derived.Test.YtdanlghaiekeaaaPolyNum
import Derived.Test.YtdanlghaiekeaaaPolyW
import Derived.Test.YtdanlghaiekeaaaPoly1
import Derived.Test.YtdanlghaiekeaaaPoly2
import Derived.Test.YtdanlghaiekeaaaConcatC
import Derived.Test.YtdanlghaiekeaaaPolyA
import Derived.WalkKit
import Derived.ProofKit
import Derived.OpenShut
import Derived.ShutString
import Derived.ChangeOld
import Derived.Below
import Derived.Lib.Hide
import Derived.BigQuiet
import Derived.Deep.QuietTactic
import Derived.WalkLawsBesides
import Derived.Outline
import Derived.Deep.LoopGhost
import Derived.Deep.QuietTactic
import Derived.BigQuiet
import Derived.Deep.RegionHeld3
import Derived.Deep.MidRow
import Derived.Deep.WholeRow
import Derived.StillTailTactics
import Derived.Laws.ComplexArith
namespace Go.Proofs.Ytdanlghaiekeaaa.polyB
open Go.ChangeShapes Go.WideShapes Go.ChangeAt Go.RowKit
open Go.ChangeMaps (open_string shut_string)
set_option linter.unusedVariables false
open Go Ieee Go.RowKit
open Go.Proofs.Ytdanlghaiekeaaa.slc Go.Proofs.Ytdanlghaiekeaaa.small Go.Proofs.Ytdanlghaiekeaaa.floats Go.Proofs.Ytdanlghaiekeaaa.round Go.Proofs.Ytdanlghaiekeaaa.values Go.Proofs.Ytdanlghaiekeaaa.conv Go.Proofs.Ytdanlghaiekeaaa.fWalk Go.Proofs.Ytdanlghaiekeaaa.phase Go.Proofs.Ytdanlghaiekeaaa.sine Go.Proofs.Ytdanlghaiekeaaa.phasor Go.Proofs.Ytdanlghaiekeaaa.listC Go.Proofs.Ytdanlghaiekeaaa.sineIn Go.Proofs.Ytdanlghaiekeaaa.polyNum Go.Proofs.Ytdanlghaiekeaaa.polyW Go.Proofs.Ytdanlghaiekeaaa.poly1 Go.Proofs.Ytdanlghaiekeaaa.poly2 Go.Proofs.Ytdanlghaiekeaaa.concatC Go.Proofs.Ytdanlghaiekeaaa.polyA

attribute [local go_sem] run_store_complex
/-- The number before. -/
def prv (l : List (Nat × Nat)) (j : Nat) : Nat × Nat := if j = 0 then (0, 0) else l.getD (j - 1) (0, 0)
theorem app_getD (l : List (Nat × Nat)) (j : Nat) : (l ++ [((0 : Nat), (0 : Nat))]).getD j (0, 0) = l.getD j (0, 0) := by
  by_cases h : j < l.length
  · simp [List.getD, List.getElem?_append_left h]
  · by_cases h2 : j = l.length
    · subst h2; simp [List.getD]
    · simp only [List.getD]
      rw [List.getElem?_eq_none (by simp; omega), List.getElem?_eq_none (by omega)]
theorem app_cell (l : List (Nat × Nat)) : ccell (l ++ [((0 : Nat), (0 : Nat))]) = ccell l := by
  funext j
  unfold ccell
  rw [app_getD]
theorem rd_le {w : World} {B m m' : Nat} {A : Option Addr} {f : Nat → Value} (h : Rd w B A m f) (hm : m' ≤ m) : Rd w B A m' f := fun h0 => by
  obtain ⟨ad, h1, h2, h3⟩ := h (by omega)
  exact ⟨ad, h1, h2, fun k hk => h3 k (by omega)⟩

theorem Zz_lit : Zz = #[.complex .f32 0 0, .complex .f32 0 0, .complex .f32 0 0, .complex .f32 0 0, .complex .f32 0 0, .complex .f32 0 0, .complex .f32 0 0, .complex .f32 0 0, .complex .f32 0 0, .complex .f32 0 0, .complex .f32 0 0, .complex .f32 0 0, .complex .f32 0 0, .complex .f32 0 0, .complex .f32 0 0, .complex .f32 0 0] := rfl
theorem put_run (w : World) (b : Nat) (f g : Nat → Value) (h : Ar w b f) (h1 : ∀ u ∈ lst g 16, u.oneCell' = true) : (storeCells ⟨b, 0, none⟩ (lst g 16).toArray.toList).run Try.prog w = .ok () (w.setCells b 0 (lst g 16)) := by
  have ht := h.there
  exact run_storeCells_cells (P := Try.prog) b 0 (lst g 16) 0 w (fun j hj => (ht j (by rwa [lst_len] at hj)).1) (fun j hj => (ht j (by rwa [lst_len] at hj)).2) h1

theorem slice_at (w : World) (r m : Nat) (h : m ≤ 16) (L : Int) (hL : L = (m : Int)) : (Instr.sliceAt 164 (.pointer (some ⟨r, 0, none⟩)) none (some (.int .i64 L)) none).run Try.prog w = .ok (.slice (some ⟨r, 0, none⟩) m 16) w := by
  subst hL
  have h1 : (m : Int) ≤ 16 := by omega
  have h0 : (0 : Int) ≤ m := by omega
  have hsz : ∀ w, (sizeOf 30).run Try.prog w = .ok 1 w := fun w => Try.sizeOf30 w
  simp [Instr.sliceAt, run_underlying und2, Instr.sureAddr, Instr.sliceBounds, hsz, go_sem, h1, h0]
theorem prod_cell (l : List (Nat × Nat)) (z : Nat × Nat) (j : Nat) (h : j < l.length + 1) : ccell ((l ++ [((0 : Nat), (0 : Nat))]).map fun x => mulw x z) j = .complex .f32 (mulw (l.getD j (0, 0)) z).1 (mulw (l.getD j (0, 0)) z).2 := by
  unfold ccell
  rw [map_at _ _ _ (by simpa using h), app_getD]
theorem prv_succ (l : List (Nat × Nat)) (j : Nat) : prv l (j + 1) = l.getD j (0, 0) := by unfold prv; rw [if_neg (by omega)]; rfl
theorem nx_set (l : List (Nat × Nat)) (z : Nat × Nat) (zz : Nat → Value) (j : Nat) (h : j < l.length + 1) : (lst (mix (ccell (nx l z)) zz j) (l.length + 1)).set j (.complex .f32 (nxk l z j).1 (nxk l z j).2) = lst (mix (ccell (nx l z)) zz (j + 1)) (l.length + 1) := by
  have e : ccell (nx l z) j = .complex .f32 (nxk l z j).1 (nxk l z j).2 := by
    unfold ccell
    rw [nx_at l z j (by omega)]
  rw [← e, mix_set _ _ _ _ h]

set_option maxHeartbeats 2000000 in
set_option maxRecDepth 100000 in
theorem wz_impl (ad : Addr) (c B e0 : Nat) (l : List (Nat × Nat)) (z : Nat × Nat) (w : World) (hn : l.length ≤ 15) (hl : AllB l e0) (hz : Cb z 5) (he : e0 + 7 ≤ 127) (hr : Rd w B (some ad) l.length (ccell l)) (hB : B ≤ w.heap.size) :
    Calls Try.prog 86 #[.slice (some ad) l.length c, .complex .f32 z.1 z.2] w fun e w' => ∃ A' c', e = .returned (.slice A' (l.length + 1) c') ∧ w'.ownsRow w.heap.size 30 1 (.slice A' (l.length + 1) c') (l.length + 1) (lst (ccell (nx l z)) (l.length + 1)) ∧ w.grownBy w' none := by
  obtain ⟨i0, hi0, hz0, hz1, hz2⟩ := info_parts infoC
  have hok := fun k => nxk_ok hl hz he k
  have HOK := Lib.hid hok
  clear hok hl hz
  go_enter Try.func86, Try.ntmps86
  go_wp2_with fail
  refine (arr_impl ad c B l w (by omega) hr hB).mono ?_
  rintro e w1 ⟨rfl, hg1⟩
  have hnew := Ar.new w1
  have hrun := put_run _ _ _ (ccell l) hnew (cc_one l 16)
  obtain ⟨hA, hgA⟩ := hnew.put (ccell l)
  have g2 := gb_new (hg1.trans (World.grownBy_alloc w1 (.cells Zz 164) none)) hgA (by intro g' e; injection e with e; have := hg1.size; omega)
  have h12 : w1.heap.size < ((w1.alloc (.cells Zz 164)).setCells w1.heap.size 0 (lst (ccell l) 16)).heap.size := Nat.lt_of_lt_of_le (by simp) hgA.size
  obtain ⟨w2, hw2⟩ : ∃ w2, (w1.alloc (.cells Zz 164)).setCells w1.heap.size 0 (lst (ccell l) 16) = w2 := ⟨_, rfl⟩
  rw [hw2] at hrun hA g2 h12
  clear hw2 hgA hnew
  have HRUN := Lib.hid hrun
  rw [Zz_lit] at HRUN
  have HG := Lib.hid g2
  have HA := Lib.hid hA
  have hr1 := hg1.size
  clear g2 hg1 hrun hA
  go_wp2_with fail
  refine (show _ from HRUN.out ▸ ?_)
  clear HRUN
  simp only [Result.andThen_ok]
  rw [Oper.upon_skip]
  refine (show _ from ‹∀ (a : Act) (w : World), wpList _ _ _ _ a w → _› _ _ ?_)
  generalize w1.heap.size = r at *
  go_wp2_with (at_make; refine wpList_make_full _ rfl _ _ _ rfl w2.heap.size 30 i0 (.complex .f32 0 0) 1 Try.underlying24 hi0 hz0 hz1 _ _ _ _ (l.length + 1) rfl rfl (by omega) (by omega) (by rw [hz2]; omega) (by unfold maxLen; omega) (Nat.le_refl _) ?_; intro w3 hown3 hg3)
  have A3 := HA.out.keep0 hg3
  have hs3 := hg3.size
  have hp3 : w2.heap.size < w3.heap.size := (own_base hown3 _ rfl).2
  have g3 := HG.out.trans hg3
  have hpr := prods_impl (some ⟨r, 0, none⟩) 16 w3.heap.size (l ++ [(0, 0)]) z w3 (by simp; omega) (fun j _ => by rw [app_getD]; exact (HOK.out j).1) (by rw [app_cell]; exact rd_le A3.rd (by simp; omega)) (Nat.le_refl _)
  rw [show (l ++ [((0 : Nat), (0 : Nat))]).length = l.length + 1 by simp] at hpr
  have HPR := Lib.hid hpr
  have hsl := slice_at w3 r (l.length + 1) (by omega) ((l.length : Int) + 1) (by omega)
  clear hpr
  have HA3 := Lib.hid A3
  have HO := Lib.hid hown3
  have HG3 := Lib.hid g3
  clear A3 hown3 g3 hg3 HA HG
  go_wp2_with fail
  rw [hsl]
  simp only [Result.andThen_ok]
  rw [Oper.upon_value]
  refine (show _ from ‹∀ (a : Act) (w : World), wpList _ _ _ _ a w → _› _ _ ?_)
  go_wp2_with fail
  refine HPR.out.mono ?_
  rintro e w4 ⟨A5, c5, rfl, ho5, hg5⟩
  clear hsl HPR
  have R5 := Rd.of_lst ho5 (Nat.mul_one _).symm
  have b5 := own_base ho5
  have A4 := HA3.out.keep0 hg5
  have O4 := own_kept0 HO.out hg5
  have G4 := HG3.out.trans hg5
  have hs4 := hg5.size
  rw [Nat.mul_one] at O4
  have O4 : w4.ownsRow w2.heap.size 30 1 (.slice (some ⟨w2.heap.size, 0, none⟩) (l.length + 1) (l.length + 1)) (l.length + 1) (lst (mix (ccell (nx l z)) (fun _ => .complex .f32 0 0) 0) (l.length + 1)) := by
    rw [mix_zero, ← replicate_lst]
    exact (toList_madeCells_one (.complex .f32 0 0) (l.length + 1)) ▸ O4
  clear HA3 HO HG3 ho5 hg5
  have HG0 := Lib.hid (show w.heap.size ≤ w2.heap.size by omega)
  go_wp2_with fail
  go_loopw [7, 22] (fun bf i wr => ∃ j : Nat, j ≤ l.length + 1 ∧ i = .int .i64 j ∧ bf = .complex .f32 (prv l j).1 (prv l j).2 ∧ wr.ownsRow w2.heap.size 30 1 (.slice (some ⟨w2.heap.size, 0, none⟩) (l.length + 1) (l.length + 1)) (l.length + 1) (lst (mix (ccell (nx l z)) (fun _ => .complex .f32 0 0) j) (l.length + 1)) ∧ Ar wr r (ccell l) ∧ Rd wr w4.heap.size A5 (l.length + 1) (ccell ((l ++ [((0 : Nat), (0 : Nat))]).map fun x => mulw x z)) ∧ w.grownBy wr none ∧ w4.heap.size ≤ wr.heap.size) (fun _ i _ => l.length + 1 - (intOf i).toNat)
  case atStart => exact ⟨0, Nat.zero_le _, rfl, rfl, O4, A4, R5, G4, Nat.le_refl _⟩
  case round =>
    obtain ⟨j, hj, rfl, rfl, hown, hA, hR, hg, hsz⟩ := hrel
    clear O4 A4 R5 G4
    by_cases hlt : j < l.length + 1
    · obtain ⟨ad5, rfl, _, hc⟩ := hR.at_ hlt
      rw [prod_cell l z j hlt] at hc
      obtain ⟨_, q1, q2, _⟩ := HOK.out j
      have hcs := csub q1 q2
      change ∀ (w : World) (t : TypeId), (binOp .sub t (.complex .f32 (prv l j).1 (prv l j).2) _).run Try.prog w = _ at hcs
      clear q1 q2
      have hnx := nx_set l z (fun _ => .complex .f32 0 0) j hlt
      have hps := prv_succ l j
      have HPS := Lib.hid hps
      have HNX := Lib.hid hnx
      have har : wr.cell? ⟨r, j, none⟩ = some (.complex .f32 (l.getD j (0, 0)).1 (l.getD j (0, 0)).2) := hA.cell j (by omega)
      clear hps hnx
      generalize l.getD j (0, 0) = u at *
      generalize mulw u z = m at *
      generalize nxk l z j = o at *
      generalize prv l j = pv at *
      have hcell := hown.cellAt j (by omega)
      rw [lst_get _ _ _ hlt] at hcell
      have hm5 : mix (ccell (nx l z)) (fun _ => Value.complex .f32 0 0) j j = .complex .f32 0 0 := by unfold mix; rw [if_neg (Nat.lt_irrefl _)]
      rw [hm5] at hcell
      have hf := hown.frozenAt j
      obtain ⟨hs1, hs2⟩ := hown.stored j (.complex .f32 o.1 o.2)
      rw [HNX.out] at hs1
      have hne : r ≠ w2.heap.size := by omega
      have hA' := hA.keep hs2 (by intro e; injection e with e; exact hne e)
      have hR' := hR.kept hs2 hsz (by intro b hb _ e; have h5 := (b5 b hb).1; injection e with e; omega)
      have hg' := gb_new hg hs2 (by intro g e; injection e with e; have := HG0.out; omega)
      have hsz' := Nat.le_trans hsz hs2.size
      have k0 : (0 : Int) ≤ j := by omega
      have k1 : (j : Int) < (l.length : Int) + 1 := by omega
      have k2 : (j : Int) < 16 := by omega
      have HS := Lib.hid hs1
      have HA' := Lib.hid hA'
      have HR' := Lib.hid hR'
      have HG' := Lib.hid hg'
      have HZ' := Lib.hid hsz'
      clear hs1 hs2 hA' hR' hg' hown hA hR hg hsz hm5 hsz'
      go_wp2
      go_roundw
      case rel => exact ⟨j + 1, by omega, by go_num, by rw [HPS.out], HS.out, HA'.out, HR'.out, HG'.out, HZ'.out⟩
      case measure => simp [intOf]; omega
    · obtain rfl : j = l.length + 1 := by omega
      go_wp2_with fail
      go_ret
      refine ⟨_, _, rfl, ?_, hg⟩
      rw [← mix_full]
      exact own_mono hown (by omega)

end Go.Proofs.Ytdanlghaiekeaaa.polyB
