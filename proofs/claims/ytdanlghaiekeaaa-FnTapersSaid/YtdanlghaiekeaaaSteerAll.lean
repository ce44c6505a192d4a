/- Lists of complex numbers that are the same but for the bits of not-a-numbers, compared in a law. -/
/- Weights that point to a direction, by the model and by the program. -/
/- Weights that point to a direction: all answers of the model and of the program. -/
import Derived.Test.YtdanlghaiekeaaaRows
import Derived.Test.YtdanlghaiekeaaaSlc
import Derived.Test.YtdanlghaiekeaaaFloats
import Derived.Test.YtdanlghaiekeaaaRound
import Derived.Test.YtdanlghaiekeaaaValues
import Derived.Test.YtdanlghaiekeaaaConv
import Derived.Test.YtdanlghaiekeaaaFWalk
import Derived.Test.YtdanlghaiekeaaaFinWalk
import Derived.Test.YtdanlghaiekeaaaFloat2
import Derived.Test.YtdanlghaiekeaaaFloat3
import Derived.Test.YtdanlghaiekeaaaPhase
import Derived.Test.YtdanlghaiekeaaaSine
import Derived.Test.YtdanlghaiekeaaaPhasor
import Derived.Test.YtdanlghaiekeaaaListC
import Derived.Test.YtdanlghaiekeaaaSmall
import Derived.Test.YtdanlghaiekeaaaOpens
import Derived.Test.YtdanlghaiekeaaaPlaces
import Derived.Test.YtdanlghaiekeaaaPlaceSet
import Derived.Test.YtdanlghaiekeaaaSteps
import Derived.Test.YtdanlghaiekeaaaSteerNum
import Derived.Test.YtdanlghaiekeaaaSteering
import Derived.Test.YtdanlghaiekeaaaSteering2
import Derived.Test.YtdanlghaiekeaaaListF
import Derived.WalkKit
import Derived.ProofKit
import Derived.OpenShut
import Derived.ShutString
import Derived.ChangeOld
import Derived.Below
import Derived.Lib.Hide
import Derived.BigQuiet
import Derived.Deep.QuietTactic
import Derived.WalkLawsBesides
import Derived.Outline
import Derived.Deep.LoopGhost
import Derived.Deep.RegionHeld3
import Derived.Deep.RegionWith
import Derived.Laws.ComplexArith
import Derived.Deep.RegionLaw
import Derived.Deep.AppendLies
namespace Go.Proofs.Ytdanlghaiekeaaa.listCC
open Go.ChangeShapes Go.WideShapes Go.ChangeAt Go.RowKit
open Go.ChangeMaps (open_string shut_string)
set_option linter.unusedVariables false
open Go Ieee Go.RowKit
open Go.Proofs.Ytdanlghaiekeaaa.slc Go.Proofs.Ytdanlghaiekeaaa.floats Go.Proofs.Ytdanlghaiekeaaa.round Go.Proofs.Ytdanlghaiekeaaa.values Go.Proofs.Ytdanlghaiekeaaa.conv Go.Proofs.Ytdanlghaiekeaaa.fWalk Go.Proofs.Ytdanlghaiekeaaa.finWalk Go.Proofs.Ytdanlghaiekeaaa.listC

theorem ff_any (a : Nat) (w : World) : (Conv.floatToFloat .f32 a .f64).run Try.prog w = .ok (.float .f64 (cval .f32 w a .f64)) (w.drewN (ccnt .f32 a .f64)) := by
  have h1 := run_convff (P := Try.prog) w 44 43 .f32 .f64 a (by rw [Try.underlying44]; rfl) Try.underlying43
  simpa [convert, run_underlying Try.underlying44, run_underlying Try.underlying43] using h1
theorem cc_any (a b : Nat) (w : World) : (convert 30 107 (.complex .f32 a b)).run Try.prog w = .ok (.complex .f64 (cval .f32 w a .f64) (cval .f32 (w.drewN (ccnt .f32 a .f64)) b .f64)) (w.drewN (ccnt .f32 a .f64 + ccnt .f32 b .f64)) := by
  simp [convert, run_underlying Try.underlying30, run_underlying Try.underlying107, Conv.complexToComplex, ff_any, World.drewN_drewN]
theorem same_x (a b c d : Nat) (w : World) (h1 : can .f64 a = can .f64 c) (h2 : can .f64 b = can .f64 d) :
    Calls Try.prog 184 #[.complex .f64 a b, .complex .f64 c d] w fun e w' => e = .returned (.bool true) ∧ w.grownBy w' none := by
  go_enter Try.func184, Try.ntmps184
  go_wp2_with fail
  refine (same_float _ _ _ h1).mono ?_
  rintro e w' ⟨rfl, n, rfl⟩
  go_wp2_with fail
  refine (same_float _ _ _ h2).mono ?_
  rintro e w' ⟨rfl, m, rfl⟩
  go_wp2_with fail
  go_ret
  exact ⟨rfl, gb_drewN _ _ _⟩
theorem gbD {a b : World} (h : a.grownBy b none) (k : Nat) : a.grownBy (b.drewN k) none := h.trans (gb_drewN _ _ _)
/-- Two lists have the same numbers. -/
def SameL (l m : List (Nat × Nat)) : Prop := l.length = m.length ∧ ∀ j, j < l.length → can .f32 (l.getD j (0, 0)).1 = can .f32 (m.getD j (0, 0)).1 ∧ can .f32 (l.getD j (0, 0)).2 = can .f32 (m.getD j (0, 0)).2
theorem can_wide {a b : Nat} (h : can .f32 a = can .f32 b) (w1 w2 : World) : can .f64 (cval .f32 w1 a .f64) = can .f64 (cval .f32 w2 b .f64) := by
  rw [can_cval (wide_fits _) (by decide), can_cval (wide_fits _) (by decide)]
  rcases can_eq_iff.1 h with h | ⟨h1, h2⟩
  · rw [h]
  · unfold cop
    have e : ∀ x, isNaN .f32 x = true → floatToFloatBits .f32 x .f64 = none := fun x hx => by
      unfold floatToFloatBits
      rw [if_neg (by decide)]
      have h' : (FloatKind.f32.decode x).isNaN = true := hx
      revert h'
      cases FloatKind.f32.decode x <;> simp [Datum.isNaN]
    rw [e a h1, e b h2]
attribute [local go_sem] cc_any
set_option maxHeartbeats 1600000 in
theorem eqC_can (A A' : Option Addr) (c d B : Nat) (l m : List (Nat × Nat)) (w : World) (hn : l.length ≤ 9223372036854775807) (hB : B ≤ w.heap.size) (hs : SameL l m) (ha : Rd w B A l.length (ccell l)) (hb : Rd w B A' m.length (ccell m)) :
    Calls Try.prog 159 #[.slice A l.length c, .slice A' m.length d] w fun e w' => e = .returned (.bool true) ∧ w.grownBy w' none := by
  obtain ⟨hlen, hs⟩ := hs
  rw [← hlen] at hb ⊢
  generalize hnn : l.length = n at *
  go_enter Try.func159, Try.ntmps159
  go_wp2
  go_loopw [5] (fun i wr => ∃ k : Nat, k ≤ n ∧ i = .int .i64 k ∧ w.grownBy wr none) (fun i _ => n - (intOf i).toNat)
  case atStart => exact ⟨0, Nat.zero_le _, rfl, World.grownBy.refl _ _⟩
  case round =>
    obtain ⟨k, hk, rfl, hg⟩ := hrel
    by_cases hlt : k < n
    · obtain ⟨ad, rfl, _, hc0⟩ := (ha.kept0 hg hB).at_ hlt
      obtain ⟨bd, rfl, _, hd0⟩ := (hb.kept0 hg hB).at_ hlt
      obtain ⟨e1, e2⟩ := hs k hlt
      unfold ccell at hc0 hd0
      generalize (l.getD k (0, 0)).1 = x1 at *
      generalize (l.getD k (0, 0)).2 = x2 at *
      generalize (m.getD k (0, 0)).1 = y1 at *
      generalize (m.getD k (0, 0)).2 = y2 at *
      have hk0 : (0 : Int) ≤ k := by omega
      have hk1 : (k : Int) < n := by omega
      have h1 := fun w1 w2 => can_wide e1 w1 w2
      have h2 := fun w1 w2 => can_wide e2 w1 w2
      have H1 := Lib.hid h1
      have H2 := Lib.hid h2
      clear e1 e2 h1 h2 hs hnn hlen
      go_wp2
      go_region_with ((go_at_call 184; refine (same_x _ _ _ _ _ (H1.out _ _) (H2.out _ _)).mono ?_; rintro e w' ⟨rfl, hg5⟩))
      all_goals
        have hfin := (gbD hg _).trans hg5
        go_wp2
        go_roundw
        case rel => exact ⟨k + 1, by omega, by go_num, hfin⟩
        case measure => simp [intOf]; omega
    · go_wp2
      go_ret
      exact ⟨rfl, hg⟩

end Go.Proofs.Ytdanlghaiekeaaa.listCC

namespace Go.Proofs.Ytdanlghaiekeaaa.steerW
open Go.ChangeShapes Go.WideShapes Go.ChangeAt Go.RowKit
open Go.ChangeMaps (open_string shut_string)
set_option linter.unusedVariables false
open Go Ieee Go.RowKit
open Go.Proofs.Ytdanlghaiekeaaa.slc Go.Proofs.Ytdanlghaiekeaaa.small Go.Proofs.Ytdanlghaiekeaaa.opens Go.Proofs.Ytdanlghaiekeaaa.places Go.Proofs.Ytdanlghaiekeaaa.placeSet Go.Proofs.Ytdanlghaiekeaaa.listC Go.Proofs.Ytdanlghaiekeaaa.floats Go.Proofs.Ytdanlghaiekeaaa.round Go.Proofs.Ytdanlghaiekeaaa.values Go.Proofs.Ytdanlghaiekeaaa.conv Go.Proofs.Ytdanlghaiekeaaa.fWalk Go.Proofs.Ytdanlghaiekeaaa.steerNum Go.Proofs.Ytdanlghaiekeaaa.steering Go.Proofs.Ytdanlghaiekeaaa.steering2 Go.Proofs.Ytdanlghaiekeaaa.listF Go.Proofs.Ytdanlghaiekeaaa.listCC

section
attribute [local go_sem] run_fmul
theorem scale_spec (a b t : Nat) (w : World) :
    Calls Try.prog 125 #[.complex .f32 a b, .float .f32 t] w fun e w' => ∃ p q, e = .returned (.complex .f32 p q) ∧ can .f32 p = fop .mul .f32 a t ∧ can .f32 q = fop .mul .f32 b t ∧ w.grownBy w' none := by
  go_enter Try.func125, Try.ntmps125
  go_wp2
  go_ret
  exact ⟨_, _, rfl, can_fval _ _ _ _ _, can_fval _ _ _ _ _, gb_drewN _ _ _⟩
theorem scale_impl (a b t : Nat) (w : World) :
    Calls Try.prog 127 #[.complex .f32 a b, .float .f32 t] w fun e w' => ∃ p q, e = .returned (.complex .f32 p q) ∧ can .f32 p = fop .mul .f32 a t ∧ can .f32 q = fop .mul .f32 b t ∧ w.grownBy w' none := by
  go_enter Try.func127, Try.ntmps127
  go_wp2
  go_ret
  exact ⟨_, _, rfl, can_fval _ _ _ _ _, can_fval _ _ _ _ _, gb_drewN _ _ _⟩
end

/-- The numbers of l are the products of those of s and numbers. -/
def Scl (s : List (Nat × Nat)) (x : Nat → Nat) (l : List (Nat × Nat)) : Prop :=
  ∀ j, j < l.length → can .f32 (l.getD j (0, 0)).1 = fop .mul .f32 (s.getD j (0, 0)).1 (x j) ∧ can .f32 (l.getD j (0, 0)).2 = fop .mul .f32 (s.getD j (0, 0)).2 (x j)
theorem Scl.nil (s : List (Nat × Nat)) (x : Nat → Nat) : Scl s x [] := fun j h => absurd h (by simp)
theorem Scl.snoc {s l : List (Nat × Nat)} {x : Nat → Nat} {p q k : Nat} (h : Scl s x l) (hk : l.length = k) (hp : can .f32 p = fop .mul .f32 (s.getD k (0, 0)).1 (x k)) (hq : can .f32 q = fop .mul .f32 (s.getD k (0, 0)).2 (x k)) : Scl s x (l ++ [(p, q)]) := by
  intro j hj
  by_cases h1 : j < l.length
  · have e : (l ++ [(p, q)]).getD j (0, 0) = l.getD j (0, 0) := by simp [List.getD, List.getElem?_append_left h1]
    rw [e]
    exact h j h1
  · have e : j = l.length := by simp at hj; omega
    subst e
    have e : (l ++ [(p, q)]).getD l.length (0, 0) = (p, q) := by simp [List.getD]
    rw [e, hk]
    exact ⟨hp, hq⟩
theorem Scl.same {s l m : List (Nat × Nat)} {x : Nat → Nat} (h : Scl s x l) (h' : Scl s x m) (e : l.length = m.length) : SameL l m :=
  ⟨e, fun j hj => ⟨(h j hj).1.trans (h' j (by omega)).1.symm, (h j hj).2.trans (h' j (by omega)).2.symm⟩⟩
theorem ccell_all (l : List (Nat × Nat)) (p q : Nat) : lst (ccell (l ++ [(p, q)])) (l.length + 1) = lst (ccell l) l.length ++ [.complex .f32 p q] := by
  have h := ccell_snoc l p q
  rwa [List.length_append] at h

set_option maxHeartbeats 2000000 in
set_option maxRecDepth 100000 in
theorem sw_spec : True := trivial

end Go.Proofs.Ytdanlghaiekeaaa.steerW

namespace Go.Proofs.Ytdanlghaiekeaaa.steerW2
open Go.ChangeShapes Go.WideShapes Go.ChangeAt Go.RowKit
open Go.ChangeMaps (open_string shut_string)
set_option linter.unusedVariables false
open Go Ieee Go.RowKit
open Go.Proofs.Ytdanlghaiekeaaa.slc Go.Proofs.Ytdanlghaiekeaaa.small Go.Proofs.Ytdanlghaiekeaaa.opens Go.Proofs.Ytdanlghaiekeaaa.places Go.Proofs.Ytdanlghaiekeaaa.placeSet Go.Proofs.Ytdanlghaiekeaaa.listC Go.Proofs.Ytdanlghaiekeaaa.floats Go.Proofs.Ytdanlghaiekeaaa.round Go.Proofs.Ytdanlghaiekeaaa.values Go.Proofs.Ytdanlghaiekeaaa.conv Go.Proofs.Ytdanlghaiekeaaa.fWalk Go.Proofs.Ytdanlghaiekeaaa.steerNum Go.Proofs.Ytdanlghaiekeaaa.steering Go.Proofs.Ytdanlghaiekeaaa.steering2 Go.Proofs.Ytdanlghaiekeaaa.listF Go.Proofs.Ytdanlghaiekeaaa.listCC Go.Proofs.Ytdanlghaiekeaaa.steerW

attribute [local go_sem] run_store_complex
theorem mix_app (l : List (Nat × Nat)) (p q n j : Nat) (z : Nat → Value) (hj : l.length = j) (hn : j < n) : (lst (mix (ccell l) z j) n).set j (.complex .f32 p q) = lst (mix (ccell (l ++ [(p, q)])) z (j + 1)) n := by
  have e1 : lst (mix (ccell l) z j) n = lst (mix (ccell (l ++ [(p, q)])) z j) n := lst_congr fun i hi => by
    unfold mix
    split
    · rename_i h
      unfold ccell
      rw [show (l ++ [(p, q)]).getD i (0, 0) = l.getD i (0, 0) by simp [List.getD, List.getElem?_append_left (show i < l.length by omega)]]
    · rfl
  have e2 : ccell (l ++ [(p, q)]) j = .complex .f32 p q := by unfold ccell; subst hj; simp [List.getD]
  rw [e1, ← e2, mix_set _ _ _ _ hn]
set_option maxHeartbeats 2000000 in
set_option maxRecDepth 100000 in
theorem sw_impl (A A' : Option Addr) (c c' B : Nat) (ps : List (Int × Int)) (u v : Int) (x : Nat → Nat) (w : World) (hm : ps.length ≤ 9223372036854775807) (hr : Rd w B A (ps.length * 2) (pcell ps)) (hf : Rd w B A' ps.length (fl x)) (hB : B ≤ w.heap.size) (hv : vp ps = true) (hd : dirB u v = true) :
    Calls Try.prog 55 #[.slice A ps.length c, .agg #[.int .i64 u, .int .i64 v], .slice A' ps.length c'] w fun e w' => ∃ A'' c'' l, l.length = ps.length ∧ Scl (stl ps u v) x l ∧ e = .returned (.tuple #[.slice A'' ps.length c'', .bool true]) ∧
      w'.ownsRow w.heap.size 30 1 (.slice A'' ps.length c'') ps.length (lst (ccell l) ps.length) ∧ w.grownBy w' none := by
  obtain ⟨i0, hi0, hz0, hz1, hz2⟩ := info_parts infoC
  have hl16 := (vp_yes hv).2.1
  have hbox := World.grownBy_alloc w (.cells #[.int .i64 u, .int .i64 v] 41) none
  have hb0 := (boxed2 (World.grownBy.refl (w.alloc (.cells #[.int .i64 u, .int .i64 v] 41)) none)).1
  have hb1 := (boxed2 (World.grownBy.refl (w.alloc (.cells #[.int .i64 u, .int .i64 v] 41)) none)).2
  have hst := steering2.impl_c ps u v
  unfold steR at hst
  rw [if_pos ⟨hv, hd⟩] at hst
  have HST := Lib.hid hst
  have hls := stl_len ps u v
  have HLS := Lib.hid hls
  have hbB : B ≤ (w.alloc (.cells #[.int .i64 u, .int .i64 v] 41)).heap.size := by simp; omega
  clear hv hd hst hls
  generalize stl ps u v = L at *
  go_enter Try.func55, Try.ntmps55
  go_wp2_with fail
  refine (HST.out A c B _ hm (hr.kept0 hbox hB) hbB).mono ?_
  rintro e w3 ⟨A3, c3, rfl, ho3, hg3⟩
  have R3 := Rd.of_lst ho3 (Nat.mul_one _).symm
  have g3 := hbox.trans hg3
  have hf3 := hf.kept0 g3 hB
  dsimp only at R3 ⊢
  rw [HLS.out] at R3 ⊢
  clear ho3 hb0 hb1
  go_wp2_with (at_make; refine wpList_make_full _ rfl _ _ _ rfl w3.heap.size 30 i0 (.complex .f32 0 0) 1 Try.underlying24 hi0 hz0 hz1 _ _ _ _ ps.length rfl rfl rfl rfl (by rw [hz2]; omega) (by unfold maxLen; omega) (Nat.le_refl _) ?_; intro w4 hown4 hg4)
  go_loopw [33] (fun i wr => ∃ j : Nat, j ≤ ps.length ∧ i = .int .i64 j ∧ ∃ l : List (Nat × Nat), l.length = j ∧ Scl L x l ∧ wr.ownsRow w3.heap.size 30 1 (.slice (some ⟨w3.heap.size, 0, none⟩) ps.length ps.length) ps.length (lst (mix (ccell l) (fun _ => .complex .f32 0 0) j) ps.length) ∧ w3.grownBy wr none) (fun i _ => ps.length - (intOf i).toNat)
  case atStart =>
    refine ⟨0, Nat.zero_le _, rfl, [], rfl, Scl.nil _ _, ?_, hg4⟩
    rw [mix_zero, ← replicate_lst]
    rw [Nat.mul_one] at hown4
    exact (toList_madeCells_one (.complex .f32 0 0) ps.length) ▸ hown4
  case round =>
    obtain ⟨j, hj, rfl, l, hlk, hsc, hown, hg⟩ := hrel
    by_cases hlt : j < ps.length
    · obtain ⟨ad, rfl, _, hc1⟩ := (R3.kept0 hg (Nat.le_refl _)).at_ hlt
      have hB3 : B ≤ w3.heap.size := Nat.le_trans hB g3.size
      obtain ⟨bd, rfl, hbd, hc2⟩ := (hf3.kept0 hg hB3).at_ hlt
      have hsn := fun p q hp hq => hsc.snoc (p := p) (q := q) hlk hp hq
      unfold ccell at hc1
      have hc2' : wr.cell? (bd.add j) = some (.float .f32 (x j)) := hc2
      generalize (L.getD j (0, 0)).1 = a1 at *
      generalize (L.getD j (0, 0)).2 = a2 at *
      generalize x j = t1 at *
      have HSN := Lib.hid hsn
      have HMX := Lib.hid (fun p q => mix_app l p q ps.length j (fun _ => .complex .f32 0 0) hlk hlt)
      have k0 : (0 : Int) ≤ j := by omega
      have k1 : (j : Int) < ps.length := by omega
      clear hsn hc2 hsc
      go_wp2_with fail
      refine (scale_impl _ _ _ _).mono ?_
      rintro e w5 ⟨p, q, rfl, hp, hq, hg5⟩
      have hsc' := HSN.out p q hp hq
      have g5 := hg.trans hg5
      have hown5 := own_kept0 hown hg5
      have hcell5 := hown5.cellAt j (by omega)
      rw [lst_get _ _ _ hlt] at hcell5
      have hm5 : mix (ccell l) (fun _ => Value.complex .f32 0 0) j j = .complex .f32 0 0 := by unfold mix; rw [if_neg (Nat.lt_irrefl _)]
      rw [hm5] at hcell5
      have hf5 := hown5.frozenAt j
      obtain ⟨hs1, hs2⟩ := hown5.stored j (.complex .f32 p q)
      rw [HMX.out p q] at hs1
      have hs2' := gb_new g5 hs2 (by intro g e; injection e with e; omega)
      have HS4 := Lib.hid hs1
      have HG4 := Lib.hid hs2'
      clear hs1 hs2' hs2 hown5 g5 hg5 hown hg hm5 hc1 hc2'
      go_wp2
      go_roundw
      case rel => exact ⟨j + 1, by omega, by go_num, l ++ [(p, q)], by simp; omega, hsc', HS4.out, HG4.out⟩
      case measure => simp [intOf]; omega
    · obtain rfl : j = ps.length := by omega
      go_wp2_with fail
      go_ret2
      refine ⟨_, _, l, hlk, hsc, rfl, ?_, g3.trans hg⟩
      rw [← mix_full]
      exact own_mono hown g3.size

end Go.Proofs.Ytdanlghaiekeaaa.steerW2
