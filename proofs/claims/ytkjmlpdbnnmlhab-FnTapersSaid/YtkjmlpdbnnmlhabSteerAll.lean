/- Lists of complex numbers that are the same but for the bits of not-a-numbers, compared in a law. -/
/- Weights that point to a direction, by the model and by the program. -/
/- Weights that point to a direction: all answers of the model and of the program. -/
import Derived.Test.YtkjmlpdbnnmlhabRows
import Derived.Test.YtkjmlpdbnnmlhabSlc
import Derived.Test.YtkjmlpdbnnmlhabFloats
import Derived.Test.YtkjmlpdbnnmlhabRound
import Derived.Test.YtkjmlpdbnnmlhabValues
import Derived.Test.YtkjmlpdbnnmlhabConv
import Derived.Test.YtkjmlpdbnnmlhabFWalk
import Derived.Test.YtkjmlpdbnnmlhabFinWalk
import Derived.Test.YtkjmlpdbnnmlhabFloat2
import Derived.Test.YtkjmlpdbnnmlhabFloat3
import Derived.Test.YtkjmlpdbnnmlhabPhase
import Derived.Test.YtkjmlpdbnnmlhabSine
import Derived.Test.YtkjmlpdbnnmlhabPhasor
import Derived.Test.YtkjmlpdbnnmlhabListC
import Derived.Test.YtkjmlpdbnnmlhabSmall
import Derived.Test.YtkjmlpdbnnmlhabOpens
import Derived.Test.YtkjmlpdbnnmlhabPlaces
import Derived.Test.YtkjmlpdbnnmlhabPlaceSet
import Derived.Test.YtkjmlpdbnnmlhabSteps
import Derived.Test.YtkjmlpdbnnmlhabSteerNum
import Derived.Test.YtkjmlpdbnnmlhabSteering
import Derived.Test.YtkjmlpdbnnmlhabSteering2
import Derived.Test.YtkjmlpdbnnmlhabListF
import Derived.WalkKit
import Derived.ProofKit
import Derived.OpenShut
import Derived.ShutString
import Derived.ChangeOld
import Derived.Below
import Derived.Lib.Hide
import Derived.BigQuiet
import Derived.Deep.QuietTactic
import Derived.WalkLawsBesides
import Derived.Outline
import Derived.Deep.LoopGhost
import Derived.Deep.RegionHeld3
import Derived.Deep.RegionWith
import Derived.Laws.ComplexArith
import Derived.Deep.RegionLaw
import Derived.Deep.AppendLies
namespace Go.Proofs.Ytkjmlpdbnnmlhab.listCC
open Go.ChangeShapes Go.WideShapes Go.ChangeAt Go.RowKit
open Go.ChangeMaps (open_string shut_string)
set_option linter.unusedVariables false
open Go Ieee Go.RowKit
open Go.Proofs.Ytkjmlpdbnnmlhab.slc Go.Proofs.Ytkjmlpdbnnmlhab.floats Go.Proofs.Ytkjmlpdbnnmlhab.round Go.Proofs.Ytkjmlpdbnnmlhab.values Go.Proofs.Ytkjmlpdbnnmlhab.conv Go.Proofs.Ytkjmlpdbnnmlhab.fWalk Go.Proofs.Ytkjmlpdbnnmlhab.finWalk Go.Proofs.Ytkjmlpdbnnmlhab.listC

theorem ff_any (a : Nat) (w : World) : (Conv.floatToFloat .f32 a .f64).run Try.prog w = .ok (.float .f64 (cval .f32 w a .f64)) (w.drewN (ccnt .f32 a .f64)) := by
  have h1 := run_convff (P := Try.prog) w 61 39 .f32 .f64 a (by rw [Try.underlying61]; rfl) Try.underlying39
  simpa [convert, run_underlying Try.underlying61, run_underlying Try.underlying39] using h1
theorem cc_any (a b : Nat) (w : World) : (convert 71 225 (.complex .f32 a b)).run Try.prog w = .ok (.complex .f64 (cval .f32 w a .f64) (cval .f32 (w.drewN (ccnt .f32 a .f64)) b .f64)) (w.drewN (ccnt .f32 a .f64 + ccnt .f32 b .f64)) := by
  simp [convert, run_underlying Try.underlying71, run_underlying Try.underlying225, Conv.complexToComplex, ff_any, World.drewN_drewN]
theorem same_x (a b c d : Nat) (w : World) (h1 : can .f64 a = can .f64 c) (h2 : can .f64 b = can .f64 d) :
    Calls Try.prog 187 #[.complex .f64 a b, .complex .f64 c d] w fun e w' => e = .returned (.bool true) ∧ w.grownBy w' none := by
  go_enter Try.func187, Try.ntmps187
  go_wp2_with fail
  refine (same_float _ _ _ h1).mono ?_
  rintro e w' ⟨rfl, n, rfl⟩
  go_wp2_with fail
  refine (same_float _ _ _ h2).mono ?_
  rintro e w' ⟨rfl, m, rfl⟩
  go_wp2_with fail
  go_ret
  exact ⟨rfl, gb_drewN _ _ _⟩
theorem gbD {a b : World} (h : a.grownBy b none) (k : Nat) : a.grownBy (b.drewN k) none := h.trans (gb_drewN _ _ _)
/-- Two lists have the same numbers. -/
def SameL (l m : List (Nat × Nat)) : Prop := l.length = m.length ∧ ∀ j, j < l.length → can .f32 (l.getD j (0, 0)).1 = can .f32 (m.getD j (0, 0)).1 ∧ can .f32 (l.getD j (0, 0)).2 = can .f32 (m.getD j (0, 0)).2
theorem can_wide {a b : Nat} (h : can .f32 a = can .f32 b) (w1 w2 : World) : can .f64 (cval .f32 w1 a .f64) = can .f64 (cval .f32 w2 b .f64) := by
  rw [can_cval (wide_fits _) (by decide), can_cval (wide_fits _) (by decide)]
  rcases can_eq_iff.1 h with h | ⟨h1, h2⟩
  · rw [h]
  · unfold cop
    have e : ∀ x, isNaN .f32 x = true → floatToFloatBits .f32 x .f64 = none := fun x hx => by
      unfold floatToFloatBits
      rw [if_neg (by decide)]
      have h' : (FloatKind.f32.decode x).isNaN = true := hx
      revert h'
      cases FloatKind.f32.decode x <;> simp [Datum.isNaN]
    rw [e a h1, e b h2]
attribute [local go_sem] cc_any
set_option maxHeartbeats 1600000 in
theorem eqC_can (A A' : Option Addr) (c d B : Nat) (l m : List (Nat × Nat)) (w : World) (hn : l.length ≤ 9223372036854775807) (hB : B ≤ w.heap.size) (hs : SameL l m) (ha : Rd w B A l.length (ccell l)) (hb : Rd w B A' m.length (ccell m)) :
    Calls Try.prog 79 #[.slice A l.length c, .slice A' m.length d] w fun e w' => e = .returned (.bool true) ∧ w.grownBy w' none := by
  obtain ⟨hlen, hs⟩ := hs
  rw [← hlen] at hb ⊢
  generalize hnn : l.length = n at *
  go_enter Try.func79, Try.ntmps79
  go_wp2
  go_loopw [5] (fun i wr => ∃ k : Nat, k ≤ n ∧ i = .int .i64 k ∧ w.grownBy wr none) (fun i _ => n - (intOf i).toNat)
  case atStart => exact ⟨0, Nat.zero_le _, rfl, World.grownBy.refl _ _⟩
  case round =>
    obtain ⟨k, hk, rfl, hg⟩ := hrel
    by_cases hlt : k < n
    · obtain ⟨ad, rfl, _, hc0⟩ := (ha.kept0 hg hB).at_ hlt
      obtain ⟨bd, rfl, _, hd0⟩ := (hb.kept0 hg hB).at_ hlt
      obtain ⟨e1, e2⟩ := hs k hlt
      unfold ccell at hc0 hd0
      generalize (l.getD k (0, 0)).1 = x1 at *
      generalize (l.getD k (0, 0)).2 = x2 at *
      generalize (m.getD k (0, 0)).1 = y1 at *
      generalize (m.getD k (0, 0)).2 = y2 at *
      have hk0 : (0 : Int) ≤ k := by omega
      have hk1 : (k : Int) < n := by omega
      have h1 := fun w1 w2 => can_wide e1 w1 w2
      have h2 := fun w1 w2 => can_wide e2 w1 w2
      have H1 := Lib.hid h1
      have H2 := Lib.hid h2
      clear e1 e2 h1 h2 hs hnn hlen
      go_wp2
      go_region_with ((go_at_call 187; refine (same_x _ _ _ _ _ (H1.out _ _) (H2.out _ _)).mono ?_; rintro e w' ⟨rfl, hg5⟩))
      all_goals
        have hfin := (gbD hg _).trans hg5
        go_wp2
        go_roundw
        case rel => exact ⟨k + 1, by omega, by go_num, hfin⟩
        case measure => simp [intOf]; omega
    · go_wp2
      go_ret
      exact ⟨rfl, hg⟩

end Go.Proofs.Ytkjmlpdbnnmlhab.listCC

namespace Go.Proofs.Ytkjmlpdbnnmlhab.steerW
open Go.ChangeShapes Go.WideShapes Go.ChangeAt Go.RowKit
open Go.ChangeMaps (open_string shut_string)
set_option linter.unusedVariables false
open Go Ieee Go.RowKit
open Go.Proofs.Ytkjmlpdbnnmlhab.slc Go.Proofs.Ytkjmlpdbnnmlhab.small Go.Proofs.Ytkjmlpdbnnmlhab.opens Go.Proofs.Ytkjmlpdbnnmlhab.places Go.Proofs.Ytkjmlpdbnnmlhab.placeSet Go.Proofs.Ytkjmlpdbnnmlhab.listC Go.Proofs.Ytkjmlpdbnnmlhab.floats Go.Proofs.Ytkjmlpdbnnmlhab.round Go.Proofs.Ytkjmlpdbnnmlhab.values Go.Proofs.Ytkjmlpdbnnmlhab.conv Go.Proofs.Ytkjmlpdbnnmlhab.fWalk Go.Proofs.Ytkjmlpdbnnmlhab.steerNum Go.Proofs.Ytkjmlpdbnnmlhab.steering Go.Proofs.Ytkjmlpdbnnmlhab.steering2 Go.Proofs.Ytkjmlpdbnnmlhab.listF Go.Proofs.Ytkjmlpdbnnmlhab.listCC

section
attribute [local go_sem] run_fmul
theorem scale_spec (a b t : Nat) (w : World) :
    Calls Try.prog 180 #[.complex .f32 a b, .float .f32 t] w fun e w' => ∃ p q, e = .returned (.complex .f32 p q) ∧ can .f32 p = fop .mul .f32 a t ∧ can .f32 q = fop .mul .f32 b t ∧ w.grownBy w' none := by
  go_enter Try.func180, Try.ntmps180
  go_wp2
  go_ret
  exact ⟨_, _, rfl, can_fval _ _ _ _ _, can_fval _ _ _ _ _, gb_drewN _ _ _⟩
theorem scale_impl (a b t : Nat) (w : World) :
    Calls Try.prog 182 #[.complex .f32 a b, .float .f32 t] w fun e w' => ∃ p q, e = .returned (.complex .f32 p q) ∧ can .f32 p = fop .mul .f32 a t ∧ can .f32 q = fop .mul .f32 b t ∧ w.grownBy w' none := by
  go_enter Try.func182, Try.ntmps182
  go_wp2
  go_ret
  exact ⟨_, _, rfl, can_fval _ _ _ _ _, can_fval _ _ _ _ _, gb_drewN _ _ _⟩
end

/-- The numbers of l are the products of those of s and numbers. -/
def Scl (s : List (Nat × Nat)) (x : Nat → Nat) (l : List (Nat × Nat)) : Prop :=
  ∀ j, j < l.length → can .f32 (l.getD j (0, 0)).1 = fop .mul .f32 (s.getD j (0, 0)).1 (x j) ∧ can .f32 (l.getD j (0, 0)).2 = fop .mul .f32 (s.getD j (0, 0)).2 (x j)
theorem Scl.nil (s : List (Nat × Nat)) (x : Nat → Nat) : Scl s x [] := fun j h => absurd h (by simp)
theorem Scl.snoc {s l : List (Nat × Nat)} {x : Nat → Nat} {p q k : Nat} (h : Scl s x l) (hk : l.length = k) (hp : can .f32 p = fop .mul .f32 (s.getD k (0, 0)).1 (x k)) (hq : can .f32 q = fop .mul .f32 (s.getD k (0, 0)).2 (x k)) : Scl s x (l ++ [(p, q)]) := by
  intro j hj
  by_cases h1 : j < l.length
  · have e : (l ++ [(p, q)]).getD j (0, 0) = l.getD j (0, 0) := by simp [List.getD, List.getElem?_append_left h1]
    rw [e]
    exact h j h1
  · have e : j = l.length := by simp at hj; omega
    subst e
    have e : (l ++ [(p, q)]).getD l.length (0, 0) = (p, q) := by simp [List.getD]
    rw [e, hk]
    exact ⟨hp, hq⟩
theorem Scl.same {s l m : List (Nat × Nat)} {x : Nat → Nat} (h : Scl s x l) (h' : Scl s x m) (e : l.length = m.length) : SameL l m :=
  ⟨e, fun j hj => ⟨(h j hj).1.trans (h' j (by omega)).1.symm, (h j hj).2.trans (h' j (by omega)).2.symm⟩⟩
theorem ccell_all (l : List (Nat × Nat)) (p q : Nat) : lst (ccell (l ++ [(p, q)])) (l.length + 1) = lst (ccell l) l.length ++ [.complex .f32 p q] := by
  have h := ccell_snoc l p q
  rwa [List.length_append] at h

set_option maxHeartbeats 2000000 in
set_option maxRecDepth 100000 in
theorem sw_spec (A A' : Option Addr) (c c' B : Nat) (ps : List (Int × Int)) (u v : Int) (x : Nat → Nat) (w : World) (hm : ps.length ≤ 9223372036854775807) (hr : Rd w B A (ps.length * 2) (pcell ps)) (hf : Rd w B A' ps.length (fl x)) (hB : B ≤ w.heap.size) (hv : vp ps = true) (hd : dirB u v = true) :
    Calls Try.prog 75 #[.slice A ps.length c, .agg #[.int .i64 u, .int .i64 v], .slice A' ps.length c'] w fun e w' => ∃ A'' c'' l, l.length = ps.length ∧ Scl (stl ps u v) x l ∧ e = .returned (.tuple #[.slice A'' ps.length c'', .bool true]) ∧
      w'.ownsRow w.heap.size 71 1 (.slice A'' ps.length c'') ps.length (lst (ccell l) ps.length) ∧ w.grownBy w' none := by
  obtain ⟨i0, hi0, hz0, hz1, hz2⟩ := info_parts infoC
  have hl16 := (vp_yes hv).2.1
  have hbox := World.grownBy_alloc w (.cells #[.int .i64 u, .int .i64 v] 41) none
  have hr1 := hr.kept0 hbox hB
  have HC0 := is_spec A c B ps (w.alloc (.cells #[.int .i64 u, .int .i64 v] 41)) hm hr1 (by simp; omega)
  rw [hv] at HC0
  have HC := Lib.hid HC0
  have HD0 := fun w => dir_spec u v w
  rw [hd] at HD0
  have HD := Lib.hid HD0
  have HG := Lib.hid (fun w hr hB => stg_spec A c B ps u v w hr hB hv hd)
  have hls := stl_len ps u v
  have HLS := Lib.hid hls
  clear hv hd HC0 HD0 hls
  generalize stl ps u v = L at *
  go_enter Try.func75, Try.ntmps75
  go_wp2_with fail
  refine HC.out.mono ?_
  rintro e w1 ⟨rfl, hg1⟩
  have hd0 := (boxed2 hg1).1
  have hd1 := (boxed2 hg1).2
  go_wp2_with fail
  refine (HD.out _).mono ?_
  rintro e w2 ⟨rfl, hg2⟩
  have he0 := (boxed2 (hg1.trans hg2)).1
  have he1 := (boxed2 (hg1.trans hg2)).2
  have hg12 := (hbox.trans hg1).trans hg2
  have hsz := hg12.size
  clear hd0 hd1
  have hal := World.grownBy_alloc w2 (.cells #[] 71) none
  have hf0 := hal.cell he0 (by simp)
  have hf1 := hal.cell he1 (by simp)
  have g2a := hg12.trans hal
  have hsa := g2a.size
  have hown0 := World.ownsRow_lit (base := w.heap.size) (e := 71) (size := 1) w2 #[] 0 hsz (Nat.zero_le _) rfl
  go_wp2_with fail
  refine (HG.out _ (hr.kept0 g2a hB) (Nat.le_trans hB hsa)).mono ?_
  rintro e w3 ⟨A3, c3, rfl, ho3, hg3⟩
  have R3 := Rd.of_lst ho3 (Nat.mul_one _).symm
  have g3 := g2a.trans hg3
  have hown3 := own_kept0 hown0 hg3
  have hf3 := hf.kept0 g3 hB
  have hA3 := own_base ho3
  have hb3 := Nat.le_trans hB hsz
  have hs23 : w2.heap.size + 1 ≤ w3.heap.size := by have := hg3.size; simpa using this
  rw [World.size_alloc] at hA3
  clear ho3 hown0 he0 he1 hf0 hf1 hf
  go_wp2_with fail
  go_loopw [8, 10] (fun s i wr => ∃ k : Nat, k ≤ ps.length ∧ i = .int .i64 k ∧ ∃ l : List (Nat × Nat), l.length = k ∧ Scl L x l ∧ wr.ownsRow w.heap.size 71 1 s l.length (lst (ccell l) l.length) ∧ (∀ b, s.ownBlock = some b → b = w2.heap.size ∨ w3.heap.size ≤ b) ∧ Rd wr w3.heap.size A3 ps.length (ccell L) ∧ Rd wr B A' ps.length (fl x) ∧ w.grownBy wr none ∧ w3.heap.size ≤ wr.heap.size) (fun _ i _ => ps.length - (intOf i).toNat)
  case atStart => exact ⟨0, Nat.zero_le _, rfl, [], rfl, Scl.nil _ _, hown3, (fun b hb => .inl (by injection hb with hb; exact hb.symm)), R3, hf3, g3, Nat.le_refl _⟩
  case round =>
    obtain ⟨k, hk, rfl, l, hlk, hsc, hown, hob, r3, r4, hg, hs3⟩ := hrel
    by_cases hlt : k < ps.length
    · obtain ⟨ad, rfl, _, hc1⟩ := r3.at_ hlt
      obtain ⟨bd, rfl, hbd, hc2⟩ := r4.at_ hlt
      have RR3 := Lib.hid r3
      have RR4 := Lib.hid r4
      have HOB := Lib.hid hob
      have hsn := fun p q hp hq => hsc.snoc (p := p) (q := q) hlk hp hq
      unfold ccell at hc1
      have hc2' : wr.cell? (bd.add k) = some (.float .f32 (x k)) := hc2
      generalize (L.getD k (0, 0)).1 = a1 at *
      generalize (L.getD k (0, 0)).2 = a2 at *
      generalize x k = t1 at *
      have HSN := Lib.hid hsn
      have k0 : (0 : Int) ≤ k := by omega
      have k1 : (k : Int) < ps.length := by omega
      have hgd : w.grownBy wr.drew none := ⟨hg.os, hg.tape, hg.output, hg.size, hg.block⟩
      have hownd := hown.drew
      have HGD := Lib.hid hgd
      have hs3d : w3.heap.size ≤ wr.drew.heap.size := hs3
      clear hsn hc2 hsc hg hown r3 r4 hob hgd hs3
      have hle0 : w.heap.size ≤ w3.heap.size := g3.size
      have hln : l.length + 1 ≤ 17 := by omega
      have q1 : l.length + 1 ≤ maxLen := by unfold maxLen; omega
      have q2 : (l.length + 1) * 8 ≤ 140737488355328 := by omega
      go_wp2_with fail
      go_region_law (first
        | (refine step_append_lies _ (by rfl) _ _ _ (by rfl) w.heap.size 71 i0 _ 1 8 Try.underlying68 hi0 hz0 hz1 hz2 rfl Nat.one_pos _ _ _ (by rfl) (hown5.alloc _)
              ⟨w5.heap.size, 0, none⟩ 1 1 [.complex .f32 p q] (by rfl) (by rfl) (World.news_of_block (cs := #[.complex .f32 p q]) (t := 71) (fr := (0, 0)) (heap_alloc_new w5 _)) (cpx_one _ _)
              Nat.one_pos q1 q2 (Nat.le_trans hb5 (by simp)) (w5.heap.size + 1) (by simp) ?_; intro gg cap w6 hown6 hgrow hat hltg)
        | (go_simp; go_at_call 180; refine (scale_spec _ _ _ _).mono ?_; rintro e w5 ⟨p, q, rfl, hp, hq, hg5⟩; have hown5 := own_kept0 hownd hg5; have g5 := HGD.out.trans hg5; have hb5 := Nat.le_trans hle0 (Nat.le_trans hs3d hg5.size)))
      all_goals
        have hsc' := HSN.out p q hp hq
        have h53 := Nat.le_trans hs3d hg5.size
        have hgal : wr.drew.grownBy (w5.alloc (.cells #[.complex .f32 p q] 71)) none := hg5.trans (World.grownBy_alloc _ _ _)
        have r3' := (((RR3.out.drewN 1).kept0 hgal hs3d).kept hgrow (Nat.le_trans hs3d hgal.size) (fun b hb _ e => by
          have := hA3 b hb
          rcases HOB.out b e.symm with h | h <;> omega))
        have hbw : B ≤ wr.drew.heap.size := Nat.le_trans hb3 (Nat.le_trans (Nat.le_of_succ_le hs23) hs3d)
        have r4' := (((RR4.out.drewN 1).kept0 hgal hbw).kept hgrow (Nat.le_trans hbw hgal.size) (fun b hb hlt e => by
          rcases HOB.out b e.symm with h | h
          · omega
          · omega))
        have g6 := gb_own (g5.trans (World.grownBy_alloc _ _ _)) (hown5.alloc _) (Nat.le_refl _) hgrow
        have hz6 : w3.heap.size ≤ w6.heap.size := Nat.le_trans (Nat.le_trans hs3d hgal.size) hgrow.size
        have hob6 : ∀ b, (Value.slice (some ⟨gg, 0, none⟩) (k + 1) cap).ownBlock = some b → b = w2.heap.size ∨ w3.heap.size ≤ b := fun b hb => by
          have e : gg = b := by injection hb
          subst e
          rcases hat with h | h
          · exact HOB.out _ h
          · right; omega
        have hown6' : w6.ownsRow w.heap.size 71 1 (.slice (some ⟨gg, 0, none⟩) (k + 1) cap) (l ++ [(p, q)]).length (lst (ccell (l ++ [(p, q)])) (l ++ [(p, q)]).length) := by
          rw [← hlk, List.length_append]
          show w6.ownsRow w.heap.size _ 1 _ (l.length + 1) (lst (ccell (l ++ [(p, q)])) (l.length + 1))
          rw [ccell_all]; exact hown6
        go_wp2
        go_roundw
        case rel => exact ⟨k + 1, by omega, by go_num, l ++ [(p, q)], by simp; omega, hsc', hown6', hob6, r3', r4', g6, hz6⟩
        case measure => simp [intOf]; omega
    · obtain rfl : k = ps.length := by omega
      obtain ⟨A4, c4, rfl⟩ := own_form hown
      rw [hlk] at hown ⊢
      go_wp2_with fail
      go_ret2
      exact ⟨_, _, l, hlk, hsc, rfl, hown, hg⟩

end Go.Proofs.Ytkjmlpdbnnmlhab.steerW

namespace Go.Proofs.Ytkjmlpdbnnmlhab.steerW2
open Go.ChangeShapes Go.WideShapes Go.ChangeAt Go.RowKit
open Go.ChangeMaps (open_string shut_string)
set_option linter.unusedVariables false
open Go Ieee Go.RowKit
open Go.Proofs.Ytkjmlpdbnnmlhab.slc Go.Proofs.Ytkjmlpdbnnmlhab.small Go.Proofs.Ytkjmlpdbnnmlhab.opens Go.Proofs.Ytkjmlpdbnnmlhab.places Go.Proofs.Ytkjmlpdbnnmlhab.placeSet Go.Proofs.Ytkjmlpdbnnmlhab.listC Go.Proofs.Ytkjmlpdbnnmlhab.floats Go.Proofs.Ytkjmlpdbnnmlhab.round Go.Proofs.Ytkjmlpdbnnmlhab.values Go.Proofs.Ytkjmlpdbnnmlhab.conv Go.Proofs.Ytkjmlpdbnnmlhab.fWalk Go.Proofs.Ytkjmlpdbnnmlhab.steerNum Go.Proofs.Ytkjmlpdbnnmlhab.steering Go.Proofs.Ytkjmlpdbnnmlhab.steering2 Go.Proofs.Ytkjmlpdbnnmlhab.listF Go.Proofs.Ytkjmlpdbnnmlhab.listCC Go.Proofs.Ytkjmlpdbnnmlhab.steerW

attribute [local go_sem] run_store_complex
theorem mix_app (l : List (Nat × Nat)) (p q n j : Nat) (z : Nat → Value) (hj : l.length = j) (hn : j < n) : (lst (mix (ccell l) z j) n).set j (.complex .f32 p q) = lst (mix (ccell (l ++ [(p, q)])) z (j + 1)) n := by
  have e1 : lst (mix (ccell l) z j) n = lst (mix (ccell (l ++ [(p, q)])) z j) n := lst_congr fun i hi => by
    unfold mix
    split
    · rename_i h
      unfold ccell
      rw [show (l ++ [(p, q)]).getD i (0, 0) = l.getD i (0, 0) by simp [List.getD, List.getElem?_append_left (show i < l.length by omega)]]
    · rfl
  have e2 : ccell (l ++ [(p, q)]) j = .complex .f32 p q := by unfold ccell; subst hj; simp [List.getD]
  rw [e1, ← e2, mix_set _ _ _ _ hn]
set_option maxHeartbeats 2000000 in
set_option maxRecDepth 100000 in
theorem sw_impl (A A' : Option Addr) (c c' B : Nat) (ps : List (Int × Int)) (u v : Int) (x : Nat → Nat) (w : World) (hm : ps.length ≤ 9223372036854775807) (hr : Rd w B A (ps.length * 2) (pcell ps)) (hf : Rd w B A' ps.length (fl x)) (hB : B ≤ w.heap.size) (hv : vp ps = true) (hd : dirB u v = true) :
    Calls Try.prog 71 #[.slice A ps.length c, .agg #[.int .i64 u, .int .i64 v], .slice A' ps.length c'] w fun e w' => ∃ A'' c'' l, l.length = ps.length ∧ Scl (stl ps u v) x l ∧ e = .returned (.tuple #[.slice A'' ps.length c'', .bool true]) ∧
      w'.ownsRow w.heap.size 71 1 (.slice A'' ps.length c'') ps.length (lst (ccell l) ps.length) ∧ w.grownBy w' none := by
  obtain ⟨i0, hi0, hz0, hz1, hz2⟩ := info_parts infoC
  have hl16 := (vp_yes hv).2.1
  have hbox := World.grownBy_alloc w (.cells #[.int .i64 u, .int .i64 v] 41) none
  have hb0 := (boxed2 (World.grownBy.refl (w.alloc (.cells #[.int .i64 u, .int .i64 v] 41)) none)).1
  have hb1 := (boxed2 (World.grownBy.refl (w.alloc (.cells #[.int .i64 u, .int .i64 v] 41)) none)).2
  have hst := steering2.impl_c ps u v
  unfold steR at hst
  rw [if_pos ⟨hv, hd⟩] at hst
  have HST := Lib.hid hst
  have hls := stl_len ps u v
  have HLS := Lib.hid hls
  have hbB : B ≤ (w.alloc (.cells #[.int .i64 u, .int .i64 v] 41)).heap.size := by simp; omega
  clear hv hd hst hls
  generalize stl ps u v = L at *
  go_enter Try.func71, Try.ntmps71
  go_wp2_with fail
  refine (HST.out A c B _ hm (hr.kept0 hbox hB) hbB).mono ?_
  rintro e w3 ⟨A3, c3, rfl, ho3, hg3⟩
  have R3 := Rd.of_lst ho3 (Nat.mul_one _).symm
  have g3 := hbox.trans hg3
  have hf3 := hf.kept0 g3 hB
  dsimp only at R3 ⊢
  rw [HLS.out] at R3 ⊢
  clear ho3 hb0 hb1
  go_wp2_with (at_make; refine wpList_make_full _ rfl _ _ _ rfl w3.heap.size 71 i0 (.complex .f32 0 0) 1 Try.underlying68 hi0 hz0 hz1 _ _ _ _ ps.length rfl rfl rfl rfl (by rw [hz2]; omega) (by unfold maxLen; omega) (Nat.le_refl _) ?_; intro w4 hown4 hg4)
  go_loopw [33] (fun i wr => ∃ j : Nat, j ≤ ps.length ∧ i = .int .i64 j ∧ ∃ l : List (Nat × Nat), l.length = j ∧ Scl L x l ∧ wr.ownsRow w3.heap.size 71 1 (.slice (some ⟨w3.heap.size, 0, none⟩) ps.length ps.length) ps.length (lst (mix (ccell l) (fun _ => .complex .f32 0 0) j) ps.length) ∧ w3.grownBy wr none) (fun i _ => ps.length - (intOf i).toNat)
  case atStart =>
    refine ⟨0, Nat.zero_le _, rfl, [], rfl, Scl.nil _ _, ?_, hg4⟩
    rw [mix_zero, ← replicate_lst]
    rw [Nat.mul_one] at hown4
    exact (toList_madeCells_one (.complex .f32 0 0) ps.length) ▸ hown4
  case round =>
    obtain ⟨j, hj, rfl, l, hlk, hsc, hown, hg⟩ := hrel
    by_cases hlt : j < ps.length
    · obtain ⟨ad, rfl, _, hc1⟩ := (R3.kept0 hg (Nat.le_refl _)).at_ hlt
      have hB3 : B ≤ w3.heap.size := Nat.le_trans hB g3.size
      obtain ⟨bd, rfl, hbd, hc2⟩ := (hf3.kept0 hg hB3).at_ hlt
      have hsn := fun p q hp hq => hsc.snoc (p := p) (q := q) hlk hp hq
      unfold ccell at hc1
      have hc2' : wr.cell? (bd.add j) = some (.float .f32 (x j)) := hc2
      generalize (L.getD j (0, 0)).1 = a1 at *
      generalize (L.getD j (0, 0)).2 = a2 at *
      generalize x j = t1 at *
      have HSN := Lib.hid hsn
      have HMX := Lib.hid (fun p q => mix_app l p q ps.length j (fun _ => .complex .f32 0 0) hlk hlt)
      have k0 : (0 : Int) ≤ j := by omega
      have k1 : (j : Int) < ps.length := by omega
      clear hsn hc2 hsc
      go_wp2_with fail
      refine (scale_impl _ _ _ _).mono ?_
      rintro e w5 ⟨p, q, rfl, hp, hq, hg5⟩
      have hsc' := HSN.out p q hp hq
      have g5 := hg.trans hg5
      have hown5 := own_kept0 hown hg5
      have hcell5 := hown5.cellAt j (by omega)
      rw [lst_get _ _ _ hlt] at hcell5
      have hm5 : mix (ccell l) (fun _ => Value.complex .f32 0 0) j j = .complex .f32 0 0 := by unfold mix; rw [if_neg (Nat.lt_irrefl _)]
      rw [hm5] at hcell5
      have hf5 := hown5.frozenAt j
      obtain ⟨hs1, hs2⟩ := hown5.stored j (.complex .f32 p q)
      rw [HMX.out p q] at hs1
      have hs2' := gb_new g5 hs2 (by intro g e; injection e with e; omega)
      have HS4 := Lib.hid hs1
      have HG4 := Lib.hid hs2'
      clear hs1 hs2' hs2 hown5 g5 hg5 hown hg hm5 hc1 hc2'
      go_wp2
      go_roundw
      case rel => exact ⟨j + 1, by omega, by go_num, l ++ [(p, q)], by simp; omega, hsc', HS4.out, HG4.out⟩
      case measure => simp [intOf]; omega
    · obtain rfl : j = ps.length := by omega
      go_wp2_with fail
      go_ret2
      refine ⟨_, _, l, hlk, hsc, rfl, ?_, g3.trans hg⟩
      rw [← mix_full]
      exact own_mono hown g3.size

end Go.Proofs.Ytkjmlpdbnnmlhab.steerW2
