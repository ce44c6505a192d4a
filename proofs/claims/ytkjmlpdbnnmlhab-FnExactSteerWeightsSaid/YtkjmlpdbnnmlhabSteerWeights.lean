/- The law on SteerWeights answers true at every list of places, every direction and every list of numbers. No condition. -/
import Derived.Test.YtkjmlpdbnnmlhabRows
import Derived.Test.YtkjmlpdbnnmlhabSlc
import Derived.Test.YtkjmlpdbnnmlhabSmall
import Derived.Test.YtkjmlpdbnnmlhabOpens
import Derived.Test.YtkjmlpdbnnmlhabPlaces
import Derived.Test.YtkjmlpdbnnmlhabPlaceSet
import Derived.Test.YtkjmlpdbnnmlhabListP
import Derived.Test.YtkjmlpdbnnmlhabSteps
import Derived.Test.YtkjmlpdbnnmlhabListC
import Derived.Test.YtkjmlpdbnnmlhabFloats
import Derived.Test.YtkjmlpdbnnmlhabRound
import Derived.Test.YtkjmlpdbnnmlhabValues
import Derived.Test.YtkjmlpdbnnmlhabConv
import Derived.Test.YtkjmlpdbnnmlhabFWalk
import Derived.Test.YtkjmlpdbnnmlhabFinWalk
import Derived.Test.YtkjmlpdbnnmlhabFloat2
import Derived.Test.YtkjmlpdbnnmlhabFloat3
import Derived.Test.YtkjmlpdbnnmlhabPhase
import Derived.Test.YtkjmlpdbnnmlhabSine
import Derived.Test.YtkjmlpdbnnmlhabPhasor
import Derived.Test.YtkjmlpdbnnmlhabSteerNum
import Derived.Test.YtkjmlpdbnnmlhabSteering
import Derived.Test.YtkjmlpdbnnmlhabSteering2
import Derived.Test.YtkjmlpdbnnmlhabListF
import Derived.Test.YtkjmlpdbnnmlhabHeldF
import Derived.Test.YtkjmlpdbnnmlhabListCC
import Derived.Test.YtkjmlpdbnnmlhabSteerW
import Derived.Test.YtkjmlpdbnnmlhabSteerW2
import Derived.WalkKit
import Derived.ProofKit
import Derived.OpenShut
import Derived.ShutString
import Derived.ChangeOld
import Derived.Below
import Derived.Lib.Hide
import Derived.BigQuiet
import Derived.Deep.QuietTactic
import Derived.WalkLawsBesides
import Derived.Outline
import Derived.Deep.LoopGhost
import Derived.Deep.RegionHeld3
namespace Go.Proofs.Ytkjmlpdbnnmlhab.steerWeights
open Go.ChangeShapes Go.WideShapes Go.ChangeAt Go.RowKit
open Go.ChangeMaps (open_string shut_string)
set_option linter.unusedVariables false
theorem own : ownKnob Try.prog.godebug = none := by kernel_rfl
theorem laidOut : laidOutB Try.prog = true := by kernel_rfl
open Go Ieee Go.RowKit
open Go.Proofs.Ytkjmlpdbnnmlhab.slc Go.Proofs.Ytkjmlpdbnnmlhab.small Go.Proofs.Ytkjmlpdbnnmlhab.opens Go.Proofs.Ytkjmlpdbnnmlhab.places Go.Proofs.Ytkjmlpdbnnmlhab.placeSet Go.Proofs.Ytkjmlpdbnnmlhab.listP Go.Proofs.Ytkjmlpdbnnmlhab.listC Go.Proofs.Ytkjmlpdbnnmlhab.steerNum Go.Proofs.Ytkjmlpdbnnmlhab.steering2 Go.Proofs.Ytkjmlpdbnnmlhab.listF Go.Proofs.Ytkjmlpdbnnmlhab.heldF Go.Proofs.Ytkjmlpdbnnmlhab.listCC Go.Proofs.Ytkjmlpdbnnmlhab.steerW Go.Proofs.Ytkjmlpdbnnmlhab.steerW2

/-- What a function answers. -/
def Stw (F : Nat) (ps : List (Int × Int)) (u v : Int) (x : Nat → Nat) (m n : Nat) (ok : Bool) : Prop :=
  ∀ (A A' : Option Addr) (c c' B : Nat) (w : World), ps.length ≤ 9223372036854775807 → m ≤ 9223372036854775807 → Rd w B A (ps.length * 2) (pcell ps) → Rd w B A' m (fl x) → B ≤ w.heap.size →
    Calls Try.prog F #[.slice A ps.length c, .agg #[.int .i64 u, .int .i64 v], .slice A' m c'] w fun e w' => ∃ A'' c'' l, l.length = n ∧ Scl (stl ps u v) x l ∧ e = .returned (.tuple #[.slice A'' n c'', .bool ok]) ∧
      w'.ownsRow w.heap.size 71 1 (.slice A'' n c'') n (lst (ccell l) n) ∧ w.grownBy w' none
def swOk (ps : List (Int × Int)) (u v : Int) (m : Nat) : Bool := vp ps && dirB u v && decide (m = ps.length)

theorem sw_no {F : Nat} {args : Array Value} {s : List (Nat × Nat)} {x : Nat → Nat} {w : World} {k : Nat} {ok : Bool} (hok : ok = false)
    (h : Calls Try.prog F args w fun e w' => e = .returned (.tuple #[.slice none 0 0, .bool false]) ∧ w.grownBy w' none) :
    Calls Try.prog F args w fun e w' => ∃ A'' c'' l, l.length = (if ok = true then k else 0) ∧ Scl s x l ∧ e = .returned (.tuple #[.slice A'' (if ok = true then k else 0) c'', .bool ok]) ∧
      w'.ownsRow w.heap.size 71 1 (.slice A'' (if ok = true then k else 0) c'') (if ok = true then k else 0) (lst (ccell l) (if ok = true then k else 0)) ∧ w.grownBy w' none := by
  subst hok
  refine h.mono ?_
  rintro e w' ⟨rfl, hg⟩
  exact ⟨none, 0, [], rfl, Scl.nil _ _, rfl, World.ownsRow_nil _ _ _ _, hg⟩
set_option maxHeartbeats 800000 in
set_option maxRecDepth 100000 in
theorem spec_w (ps : List (Int × Int)) (u v : Int) (x : Nat → Nat) (m : Nat) : Stw 75 ps u v x m (if swOk ps u v m = true then ps.length else 0) (swOk ps u v m) := by
  intro A A' c c' B w hm hm2 hr hf hB
  have hbox := World.grownBy_alloc w (.cells #[.int .i64 u, .int .i64 v] 41) none
  have hr1 := hr.kept0 hbox hB
  have HC0 := is_spec A c B ps (w.alloc (.cells #[.int .i64 u, .int .i64 v] 41)) hm hr1 (by simp; omega)
  have HD0 := fun w => dir_spec u v w
  cases hv : vp ps
  · refine sw_no (by unfold swOk; rw [hv]; rfl) ?_
    rw [hv] at HC0
    have HC := Lib.hid HC0
    clear hv HC0 HD0
    go_enter Try.func75, Try.ntmps75
    go_wp2_with fail
    refine HC.out.mono ?_
    rintro e w1 ⟨rfl, hg1⟩
    go_wp2_with fail
    go_ret2
    exact ⟨rfl, hbox.trans hg1⟩
  · cases hd : dirB u v
    · refine sw_no (by unfold swOk; rw [hv, hd]; rfl) ?_
      rw [hv] at HC0
      rw [hd] at HD0
      have HC := Lib.hid HC0
      have HD := Lib.hid HD0
      clear hv hd HC0 HD0
      go_enter Try.func75, Try.ntmps75
      go_wp2_with fail
      refine HC.out.mono ?_
      rintro e w1 ⟨rfl, hg1⟩
      have hd0 := (boxed2 hg1).1
      have hd1 := (boxed2 hg1).2
      go_wp2_with fail
      refine (HD.out _).mono ?_
      rintro e w2 ⟨rfl, hg2⟩
      go_wp2_with fail
      go_ret2
      exact ⟨rfl, (hbox.trans hg1).trans hg2⟩
    · by_cases hml : m = ps.length
      · subst hml
        have hS : swOk ps u v ps.length = true := by unfold swOk; rw [hv, hd]; simp
        rw [hS]
        exact sw_spec A A' c c' B ps u v x w hm hr hf hB hv hd
      · refine sw_no (by unfold swOk; rw [decide_eq_false hml]; simp) ?_
        rw [hv] at HC0
        rw [hd] at HD0
        have HC := Lib.hid HC0
        have HD := Lib.hid HD0
        have hne : ¬ (m : Int) = (ps.length : Int) := by omega
        clear hv hd HC0 HD0
        go_enter Try.func75, Try.ntmps75
        go_wp2_with fail
        refine HC.out.mono ?_
        rintro e w1 ⟨rfl, hg1⟩
        have hd0 := (boxed2 hg1).1
        have hd1 := (boxed2 hg1).2
        go_wp2_with fail
        refine (HD.out _).mono ?_
        rintro e w2 ⟨rfl, hg2⟩
        go_wp2_with fail
        go_ret2
        exact ⟨rfl, (hbox.trans hg1).trans hg2⟩

set_option maxHeartbeats 800000 in
set_option maxRecDepth 100000 in
theorem impl_w (ps : List (Int × Int)) (u v : Int) (x : Nat → Nat) (m : Nat) : Stw 71 ps u v x m (if swOk ps u v m = true then ps.length else 0) (swOk ps u v m) := by
  intro A A' c c' B w hm hm2 hr hf hB
  have hbox := World.grownBy_alloc w (.cells #[.int .i64 u, .int .i64 v] 41) none
  have hb0 := (boxed2 (World.grownBy.refl (w.alloc (.cells #[.int .i64 u, .int .i64 v] 41)) none)).1
  have hb1 := (boxed2 (World.grownBy.refl (w.alloc (.cells #[.int .i64 u, .int .i64 v] 41)) none)).2
  have hbB : B ≤ (w.alloc (.cells #[.int .i64 u, .int .i64 v] 41)).heap.size := by simp; omega
  have hst := steering2.impl_c ps u v
  by_cases hok : vp ps = true ∧ dirB u v = true
  · by_cases hml : m = ps.length
    · subst hml
      have hS : swOk ps u v ps.length = true := by unfold swOk; rw [hok.1, hok.2]; simp
      rw [hS]
      exact sw_impl A A' c c' B ps u v x w hm hr hf hB hok.1 hok.2
    · refine sw_no (by unfold swOk; rw [decide_eq_false hml]; simp) ?_
      unfold steR at hst
      rw [if_pos hok] at hst
      have HST := Lib.hid hst
      have hne : ¬ (m : Int) = (ps.length : Int) := by omega
      clear hst hok
      go_enter Try.func71, Try.ntmps71
      go_wp2_with fail
      refine (HST.out A c B _ hm (hr.kept0 hbox hB) hbB).mono ?_
      rintro e w3 ⟨A3, c3, rfl, ho3, hg3⟩
      go_wp2_with fail
      go_ret2
      exact ⟨rfl, hbox.trans hg3⟩
  · have hS : swOk ps u v m = false := by
      unfold swOk
      cases h1 : vp ps
      · rfl
      · cases h2 : dirB u v
        · rfl
        · exact absurd ⟨h1, h2⟩ hok
    refine sw_no hS ?_
    unfold steR at hst
    rw [if_neg hok] at hst
    have HST := Lib.hid hst
    clear hst hok hS
    go_enter Try.func71, Try.ntmps71
    go_wp2_with fail
    refine (HST.out A c B _ hm (hr.kept0 hbox hB) hbB).mono ?_
    rintro e w3 ⟨A3, c3, rfl, ho3, hg3⟩
    go_wp2_with fail
    go_ret2
    exact ⟨rfl, hbox.trans hg3⟩
theorem sw_len (ps : List (Int × Int)) (u v : Int) (m : Nat) : (if swOk ps u v m = true then ps.length else 0) ≤ 16 := by
  split
  · rename_i h
    unfold swOk at h
    cases hv : vp ps
    · rw [hv] at h; simp at h
    · exact (vp_yes hv).2.1
  · exact Nat.zero_le _

theorem cell_past {a b : World} {A : Option Addr} {B : Nat} {p : Addr} {x : Value} (hg : a.grownBy b (A.map Addr.block)) (h : a.cell? p = some x) (hA : ∀ g, A.map Addr.block = some g → B ≤ g) (hp : p.block < B) : b.cell? p = some x :=
  hg.cell h fun e => by have := hA _ e.symm; omega

theorem eqN (A A' : Option Addr) (c d B n : Nat) (l m : List (Nat × Nat)) (w : World) (hl : l.length = n) (hm : m.length = n) (hn : n ≤ 64) (hB : B ≤ w.heap.size) (hs : SameL l m) (ha : Rd w B A n (ccell l)) (hb : Rd w B A' n (ccell m)) :
    Calls Try.prog 79 #[.slice A n c, .slice A' n d] w fun e w' => e = .returned (.bool true) ∧ w.grownBy w' none := by
  subst hl
  have h := eqC_can A A' c d B l m w (by omega) hB hs ha (by rw [hm]; exact hb)
  rw [hm] at h
  exact h
theorem markFk (A : Option Addr) (n c base k : Nat) (e : TypeId) (f : Nat → Value) (w : World) (hn : n + (k * 2 + 1) ≤ 4611686018427387904) (ho : w.ownsRow base e 1 (.slice A n c) n (lst f n)) :
    Calls Try.prog 83 #[.slice A n c, .int .i64 ((k : Int) * 2 + 1)] w fun en w' => en = .returned (.int .i64 ((k * 2 + 1 + n : Nat) : Int)) ∧ w.grownBy w' (A.map Addr.block) := by
  have h := markF A n c base e (k * 2 + 1) f w hn ho
  rw [show ((k * 2 + 1 : Nat) : Int) = (k : Int) * 2 + 1 by omega] at h
  exact h.mono fun _ _ ⟨h1, _, h3⟩ => ⟨h1, h3⟩

set_option maxHeartbeats 8000000 in
set_option maxRecDepth 100000 in
theorem law (A : Option Addr) (c : Nat) (ps : List (Int × Int)) (u v : Int) (D : Option Addr) (m d : Nat) (x : Nat → Nat) (n : Nat) (ok : Bool) (w : World) (hm : ps.length ≤ 9223372036854775807) (hm2 : m ≤ 9223372036854775807) (hn : n ≤ 16) (hr : Rd w w.heap.size A (ps.length * 2) (pcell ps)) (hf : Rd w w.heap.size D m (fl x))
    (hs : Stw 75 ps u v x m n ok) (hi : Stw 71 ps u v x m n ok) :
    Calls Try.prog 9 #[.slice A ps.length c, .agg #[.int .i64 u, .int .i64 v], .slice D m d] w fun e w' => e = .returned (.bool true) ∧ Below w.heap.size w w' := by
  have hp := pcell_ints ps (ps.length * 2)
  have hbox := World.grownBy_alloc w (.cells #[.int .i64 u, .int .i64 v] 107) none
  by_cases hml : m ≤ 1048576
  · have hml' : (m : Int) ≤ 1048576 := by omega
    by_cases hlen : ps.length ≤ 1048576
    · have hrd : ∀ w' : World, w.grownBy w' none → Rd w' w'.heap.size A (ps.length * 2) (pcell ps) := fun w' hg => (hr.kept0 hg (Nat.le_refl _)).mono hg.size
      have hrf : ∀ w' : World, w.grownBy w' none → Rd w' w'.heap.size D m (fl x) := fun w' hg => (hf.kept0 hg (Nat.le_refl _)).mono hg.size
      have hb2 := boxed2 (World.grownBy.refl (w.alloc (.cells #[.int .i64 u, .int .i64 v] 107)) none)
      obtain ⟨hb0, hb1⟩ := hb2
      have HS := Lib.hid hs
      have HI := Lib.hid hi
      have HR := Lib.hid hrd
      have HF := Lib.hid hrf
      clear hs hi hrd hrf
      go_enter Try.func9, Try.ntmps9
      go_wp2_with fail
      refine (szP _ _ _ _ hlen).mono ?_
      rintro e w' ⟨rfl, rfl⟩
      go_wp2_with fail
      go_region_held3 (fun w' => w'.cell? ⟨w.heap.size, 0, none⟩ = some (.int .i64 u) ∧ w'.cell? ⟨w.heap.size, 1, none⟩ = some (.int .i64 v) ∧ w.grownBy w' none)
        (first
          | (go_split_ands
             exact ⟨hg.cell (by assumption) (by simp), hg.cell (by assumption) (by simp), World.grownBy.trans (by assumption) hg⟩)
          | exact ⟨hb0, hb1, ⟨hbox.os, hbox.tape, hbox.output, hbox.size, hbox.block⟩⟩)
        ((first
          | (go_at_call 76; refine (toP _ _ _ _ _ hlen hp (HR.out _ ?_)).mono ?_; (first | assumption | exact hbox | exact ⟨hbox.os, hbox.tape, hbox.output, hbox.size, hbox.block⟩); rintro e w1 ⟨A1, c1, rfl, ho1, hg⟩; have R1 := Rd.of_lst ho1 rfl; have ga := hbox.trans ((gb_drewN _ 1 none).trans hg))
          | (go_at_call 77; refine (to_dir _ _ _).mono ?_; rintro e w2 ⟨rfl, hg⟩; have R2 := (R1.kept0 hg (Nat.le_refl _)).mono hg.size; have gb := ga.trans hg)
          | (go_at_call 78; refine (toF _ _ _ _ _ (by omega) (HF.out _ gb)).mono ?_; rintro e w2b ⟨A2, c2, rfl, ho2, hg⟩; have R2b := (R2.kept0 hg (Nat.le_refl _)).mono hg.size; have F2 := Rd.of_lst ho2 (Nat.mul_one _).symm)
          | (go_at_call 75; refine (HS.out _ _ _ _ _ _ hm hm2 R2b F2 (Nat.le_refl _)).mono ?_; rintro e w3 ⟨A3, c3, l3, hl3, hs3, rfl, ho3, hg⟩)))
      obtain ⟨d0, d1, g3⟩ : (w3.cell? ⟨w.heap.size, 0, none⟩ = some (.int .i64 u) ∧ w3.cell? ⟨w.heap.size, 1, none⟩ = some (.int .i64 v) ∧ w.grownBy w3 none) := by assumption
      have hw3 : w.heap.size < w3.heap.size := World.block_lt_of_cell? w3 _ d0
      have S3 := Rd.of_lst ho3 (Nat.mul_one _).symm
      have h64 : n ≤ 64 := by omega
      have n65 : n ≤ 65536 := by omega
      clear ho3 hbox hb0 hb1 ga gb R1 R2 R2b F2 ho1 ho2
      go_wp2_with fail
      refine (toP _ _ _ _ _ hlen hp (HR.out _ g3)).mono ?_
      rintro e w4 ⟨A4, c4, rfl, ho4, hg4⟩
      have R4 := Rd.of_lst ho4 rfl
      have g4 := g3.trans hg4
      go_wp2_with fail
      refine (toF _ _ _ _ _ (by omega) (HF.out _ g4)).mono ?_
      rintro e w5 ⟨A5, c5, rfl, ho5, hg5⟩
      have F5 := Rd.of_lst ho5 (Nat.mul_one _).symm
      have h35 := hg4.trans hg5
      have d0b := h35.cell d0 (by simp)
      have d1b := h35.cell d1 (by simp)
      go_wp2_with fail
      refine (to_dir u v _).mono ?_
      rintro e w6 ⟨rfl, hg6⟩
      have h46 := hg5.trans hg6
      go_wp2_with fail
      refine (HI.out _ _ _ _ _ _ hm hm2 ((R4.kept0 h46 (Nat.le_refl _)).mono h46.size) ((F5.kept0 hg6 (Nat.le_refl _)).mono hg6.size) (Nat.le_refl _)).mono ?_
      rintro e w7 ⟨A7, c7, l7, hl7, hs7, rfl, ho7, hg7⟩
      have S7 := Rd.of_lst ho7 (Nat.mul_one _).symm
      have h37 := (h35.trans hg6).trans hg7
      have g7 := g3.trans h37
      have hsame := hs7.same hs3 (hl7.trans hl3.symm)
      clear d0b d1b
      go_wp2_with fail
      refine (eqN _ _ _ _ _ _ _ _ _ hl7 hl3 h64 (Nat.le_refl _) hsame S7 ((S3.kept0 h37 (Nat.le_refl _)).mono h37.size)).mono ?_
      rintro e w8 ⟨rfl, hg8⟩
      have g8 := g7.trans hg8
      go_wp2_with fail
      refine (toP _ _ _ _ _ hlen hp (HR.out _ g8)).mono ?_
      rintro e w9 ⟨A9, c9, rfl, ho9, hg9⟩
      have R9 := Rd.of_lst ho9 rfl
      have h49 := ((h46.trans hg7).trans hg8).trans hg9
      go_wp2_with fail
      refine (eqP_true _ _ _ _ _ _ _ _ hm (Nat.le_refl _) hp ((R4.kept0 h49 (Nat.le_refl _)).mono h49.size) R9).mono ?_
      rintro e w10 ⟨rfl, hg10⟩
      have g10 := (g8.trans hg9).trans hg10
      go_wp2_with fail
      refine (toF _ _ _ _ _ (by omega) (HF.out _ g10)).mono ?_
      rintro e w11 ⟨A11, c11, rfl, ho11, hg11⟩
      have F11 := Rd.of_lst ho11 (Nat.mul_one _).symm
      have h711 := ((hg8.trans hg9).trans hg10).trans hg11
      have h511 := (hg6.trans hg7).trans h711
      go_wp2_with fail
      refine (eqF_true _ _ _ _ _ _ _ _ hm2 (Nat.le_refl _) ((F5.kept0 h511 (Nat.le_refl _)).mono h511.size) F11).mono ?_
      rintro e w12 ⟨rfl, hg12⟩
      have h712 := h711.trans hg12
      have h512 := h511.trans hg12
      have h412 := hg5.trans h512
      have h312 := hg4.trans h412
      have g12 := g3.trans h312
      have ho412 := own_kept0 ho4 h412
      go_wp2_with fail
      refine (markP1 _ _ _ _ _ _ _ (by omega) ho412).mono ?_
      rintro e w13 ⟨rfl, _, hg13⟩
      have b4 := own_base ho4
      have b5 := own_base ho5
      have b7 := own_base ho7
      have z45 := hg5.size
      have z56 := hg6.size
      have z34 := hg4.size
      have z712 := h712.size
      have z512 := h512.size
      have z312 := h312.size
      have z13 := hg13.size
      have f47 : ∀ b, A7.map Addr.block = some b → some b ≠ A4.map Addr.block := fun b hb e => by
        have x1 := (b7 b hb).1
        have x2 := (b4 b e.symm).2
        omega
      have f57 : ∀ b, A7.map Addr.block = some b → some b ≠ A5.map Addr.block := fun b hb e => by
        have x1 := (b7 b hb).1
        have x2 := (b5 b e.symm).2
        omega
      have f45 : ∀ b, A5.map Addr.block = some b → some b ≠ A4.map Addr.block := fun b hb e => by
        have x1 := (b5 b hb).1
        have x2 := (b4 b e.symm).2
        omega
      have hob : ∀ (A' : Option Addr) (nn cc : Nat) (Z : Option Nat), (∀ b, A'.map Addr.block = some b → some b ≠ Z) → (Value.slice A' nn cc).ownBlock = none ∨ (Value.slice A' nn cc).ownBlock ≠ Z := fun A' nn cc Z hz => by
        cases h6 : (Value.slice A' nn cc).ownBlock with
        | none => exact .inl rfl
        | some b => exact .inr (hz b (by rw [own_blk] at h6; exact h6))
      have ho513 := (own_kept0 ho5 h512).kept hg13 (hob _ _ _ _ f45)
      go_wp2_with fail
      refine (markFk _ _ _ _ _ _ _ _ (by omega) ho513).mono ?_
      rintro e w14 ⟨rfl, hg14⟩
      have z14 := hg14.size
      have S713 := (S7.kept0 h712 (Nat.le_refl _)).kept hg13 h712.size (fun b hb _ => f47 b hb)
      have S714 := S713.kept hg14 (Nat.le_trans h712.size hg13.size) (fun b hb _ => f57 b hb)
      have S313 := (S3.kept0 h312 (Nat.le_refl _)).kept hg13 h312.size (far_of ho4 (Nat.le_refl _))
      have S314 := S313.kept hg14 (Nat.le_trans h312.size hg13.size) (far_of ho5 z34)
      have zz7 : w7.heap.size ≤ w14.heap.size := by omega
      have zz3 : w3.heap.size ≤ w14.heap.size := by omega
      have ho714 := ((own_kept0 ho7 h712).kept hg13 (hob _ _ _ _ f47)).kept hg14 (hob _ _ _ _ f57)
      have g13 := gb_new g12 hg13 (base_of ho4 (Nat.le_of_lt hw3))
      have g14 := gb_new g13 hg14 (base_of ho5 (Nat.le_trans (Nat.le_of_lt hw3) z34))
      have d13 := cell_past hg13 (h312.cell d0 (by simp)) (base_of ho4 (Nat.le_refl _)) hw3
      have e13 := cell_past hg13 (h312.cell d1 (by simp)) (base_of ho4 (Nat.le_refl _)) hw3
      have d14 := cell_past hg14 d13 (base_of ho5 z34) hw3
      have e14 := cell_past hg14 e13 (base_of ho5 z34) hw3
      clear d13 e13 d0 d1 S713 S313 S3 S7
      go_wp2_with fail
      refine (eqN _ _ _ _ _ _ _ _ _ hl7 hl3 h64 (Nat.le_refl _) hsame (S714.mono zz7) (S314.mono zz3)).mono ?_
      rintro e w15 ⟨rfl, hg15⟩
      have ho715 := own_kept0 ho714 hg15
      have S315 := S314.kept0 hg15 zz3
      have z15 := hg15.size
      have g15 := g14.trans hg15
      go_wp2_with fail
      refine (markC1 _ _ _ _ _ _ _ n65 ho715).mono ?_
      rintro e w16 ⟨rfl, ho16, hg16⟩
      have z36 : w3.heap.size ≤ w6.heap.size := by omega
      have S316 := S315.kept hg16 (by omega) (far_of ho7 z36)
      have z16 := hg16.size
      have z3e : w3.heap.size ≤ w16.heap.size := by omega
      have M16 := Rd.of_lst ho16 (Nat.mul_one _).symm
      have g16 := gb_new g15 hg16 (base_of ho7 (by omega))
      have d16 := cell_past hg16 (hg15.cell d14 (by simp)) (base_of ho7 z36) hw3
      have e16 := cell_past hg16 (hg15.cell e14 (by simp)) (base_of ho7 z36) hw3
      go_wp2_with fail
      refine (heldC1 _ _ _ _ _ n65 M16).mono ?_
      rintro e w' ⟨rfl, rfl⟩
      clear d14 e14 hob f45 f57 f47 b4 b5 b7 ho4 ho5 ho7 ho9 ho11 ho412 ho513 ho714 ho715 ho16 S714 S314 S315 R4 R9 F5 F11 hg4 hg5 hg6 hg7 hg8 hg9 hg10 hg11 hg12 hg13 hg14 hg15 hg16 h35 h37 h46 h49 h711 h511 h712 h512 h412 h312 z45 z56 z34 z712 z512 z312 z13 z14 z15 z36 z16 zz7 zz3
      go_wp2_with fail
      go_region_held3 (fun w' => w'.cell? ⟨w.heap.size, 0, none⟩ = some (.int .i64 u) ∧ w'.cell? ⟨w.heap.size, 1, none⟩ = some (.int .i64 v) ∧ w.grownBy w' none)
        (first
          | (go_split_ands
             exact ⟨hg.cell (by assumption) (by simp), hg.cell (by assumption) (by simp), World.grownBy.trans (by assumption) hg⟩)
          | exact ⟨d16, e16, ⟨g16.os, g16.tape, g16.output, g16.size, g16.block⟩⟩)
        ((first
          | (go_at_call 76; refine (toP _ _ _ _ _ hlen hp (HR.out _ ?_)).mono ?_; (first | assumption | exact ⟨g16.os, g16.tape, g16.output, g16.size, g16.block⟩); rintro e w17 ⟨A17, c17, rfl, ho17, hg⟩; have hg17 := hg; have R17 := Rd.of_lst ho17 rfl; have g17 := g16.trans ((gb_drewN _ 1 none).trans hg))
          | (go_at_call 77; refine (to_dir _ _ _).mono ?_; rintro e w18 ⟨rfl, hg⟩; have hg18 := hg; have R18 := (R17.kept0 hg (Nat.le_refl _)).mono hg.size; have g18 := g17.trans hg)
          | (go_at_call 78; refine (toF _ _ _ _ _ (by omega) (HF.out _ g18)).mono ?_; rintro e w19 ⟨A19, c19, rfl, ho19, hg⟩; have hg19 := hg; have R19 := (R18.kept0 hg (Nat.le_refl _)).mono hg.size; have F19 := Rd.of_lst ho19 (Nat.mul_one _).symm)
          | (go_at_call 71; refine (HI.out _ _ _ _ _ _ hm hm2 R19 F19 (Nat.le_refl _)).mono ?_; rintro e w20 ⟨A20, c20, l20, hl20, hs20, rfl, ho20, hg⟩)))
      obtain ⟨_, _, g20⟩ : (w20.cell? ⟨w.heap.size, 0, none⟩ = some (.int .i64 u) ∧ w20.cell? ⟨w.heap.size, 1, none⟩ = some (.int .i64 v) ∧ w.grownBy w20 none) := by assumption
      have h1620 := ((((gb_drewN w16 1 none).trans hg17).trans hg18).trans hg19).trans hg
      have S20 := Rd.of_lst ho20 (Nat.mul_one _).symm
      have z320 := Nat.le_trans z3e h1620.size
      have hsame2 := hs20.same hs3 (hl20.trans hl3.symm)
      go_wp2_with fail
      refine (eqN _ _ _ _ _ _ _ _ _ hl20 hl3 h64 (Nat.le_refl _) hsame2 S20 ((S316.kept0 h1620 z3e).mono z320)).mono ?_
      rintro e w21 ⟨rfl, hg21⟩
      have M21 := M16.kept0 (h1620.trans hg21) (Nat.le_refl _)
      go_wp2_with fail
      refine (heldC1 _ _ _ _ _ n65 M21).mono ?_
      rintro e w' ⟨rfl, rfl⟩
      go_wp2_with fail
      go_ret
      exact ⟨rfl, gb_below (g20.trans hg21)⟩
    · go_enter Try.func9, Try.ntmps9
      go_wp2_with fail
      refine (szP_no _ _ _ _ (by omega) hm).mono ?_
      rintro e w' ⟨rfl, rfl⟩
      go_wp2_with fail
      go_ret
      exact ⟨rfl, gb_below hbox⟩
  · have hml' : (1048576 : Int) < m := by omega
    go_enter Try.func9, Try.ntmps9
    go_wp2_with fail
    go_ret
    exact ⟨rfl, gb_below hbox⟩

theorem walk (a0 : Option Addr) (len0 cap0 : Nat) (z0 : List (Int × Int)) (a1x a1y : Int) (a2 : Option Addr) (len2 cap2 : Nat) (z2 : Nat → Nat) (w : World) (l0 : z0.length = len0) (m0 : len0 ≤ maxLen) (w0 : ∀ x ∈ z0, (Lit.int .i64 x.1).wf = true ∧ (Lit.int .i64 x.2).wf = true) (r0 : Rd w w.heap.size a0 (len0 * 2) (pcell z0)) (w1x : (Lit.int .i64 a1x).wf = true) (w1y : (Lit.int .i64 a1y).wf = true)
    (l2 : len2 ≤ cap2) (m2 : cap2 ≤ maxLen) (w2 : ∀ j, j < len2 → (Lit.float .f32 (z2 j)).wf = true) (r2 : Rd w w.heap.size a2 len2 (fl z2)) :
    Calls Try.prog 9 #[.slice a0 len0 cap0, .agg #[.int .i64 a1x, .int .i64 a1y], .slice a2 len2 cap2] w fun e w' => e = .returned (.bool true) ∧ Below w.heap.size w w' := by
  subst l0
  unfold maxLen at m0 m2
  exact law a0 cap0 z0 a1x a1y a2 len2 cap2 z2 _ _ w (by omega) (by omega) (sw_len z0 a1x a1y len2) r0 r2 (spec_w z0 a1x a1y z2 len2) (impl_w z0 a1x a1y z2 len2)

set_option maxRecDepth 100000 in
theorem lifted (os : Os) (started : os.Started) (H : Type) (enc : TypeId × Value → H) :
    ReturnsInHanded {} Try.checked os 9 .any (Rows.fnExactSteerWeightsSpec.pre6 enc Try.prog Try.f9 Rows.fnExactSteerWeightsRow.domain false) (Rows.fnExactSteerWeightsSpec.post enc Try.prog Try.f9 false true false false) := by
  refine returnsInHanded_of_change (C := Try.checked) own started (by kernel_rfl) Try.func9
    (ChangeSpec.witness6 (enc := enc) (C := Try.checked) false ⟨#[], #[.slice none 0 0, .agg #[.int .i64 0, .int .i64 0], .slice none 0 0], []⟩ 8 (by kernel_rfl) (by kernel_rfl) (by kernel_rfl) (by kernel_rfl)) ?_
  intro W base args ds gs before hval0 hW hcnd _
  have hval : ∀ (j : Nat) t v, Try.f9.params[j]? = some t → args[j]? = some v → Value.okWide Try.prog W .any base t v := hval0
  have hW' := hW
  obtain ⟨p, q, hA0, hV, rfl, hfz, hnd⟩ := hW
  have hA : DataW.TrodAll enc Try.prog W 0 (fun _ => true) true Try.f9.params.toList args.toList ds p := hA0
  rw [Try.params9] at hA hval
  obtain ⟨v0, vs0, d0, ds0, p0, q0, hargs, rfl, rfl, h0, r0⟩ := trodAll_cons hA
  obtain ⟨v1, vs1, d1, ds1, p1, q1, rfl, rfl, rfl, h1, r1⟩ := trodAll_cons r0
  obtain ⟨v2, vs2, d2, ds2, p2, q2, rfl, rfl, rfl, h2, r2⟩ := trodAll_cons r1
  obtain ⟨rfl, rfl, rfl⟩ := trodAll_nil r2
  obtain rfl : args = #[v0, v1, v2] := by cases args; simp_all
  obtain ⟨rfl, rfl⟩ := trodVars_none hV
  obtain ⟨a0, len0, cap0, rfl⟩ := okWide_slice Try.underlying106 (hval 0 106 v0 rfl rfl)
  have k0 := h0
  have lt0 : ∀ x ∈ p0, x.block < W.heap.size := by obtain ⟨m, hm⟩ := k0; exact DataW.trod_lt m _ _ _ hm
  obtain ⟨z0, l0, m0, w0, r0'⟩ := opened_pairs Try.underlying106 Try.underlying223 (by kernel_rfl) rfl rfl (by kernel_rfl) (by kernel_rfl) Try.underlying2 Try.underlying2 k0
  obtain ⟨a1x, a1y, rfl, rfl, rfl, w1x, w1y⟩ := opened_pair Try.underlying107 (by kernel_rfl) (by kernel_rfl) Try.underlying2 Try.underlying2 (hval 1 107 v1 rfl rfl) h1
  obtain ⟨a2, len2, cap2, rfl⟩ := okWide_slice Try.underlying58 (hval 2 58 v2 rfl rfl)
  have k2 := h2
  have lt2 : ∀ x ∈ p2, x.block < W.heap.size := by obtain ⟨m, hm⟩ := k2; exact DataW.trod_lt m _ _ _ hm
  obtain ⟨z2, l2, m2, w2, r2'⟩ := opened_floats Try.underlying58 Try.underlying61 (by kernel_rfl) k2
  clear hA0 hval0
  refine (walk a0 len0 cap0 z0 a1x a1y a2 len2 cap2 z2 W l0 m0 w0 r0' w1x w1y l2 m2 w2 r2').mono fun e W' ⟨he, bel⟩ => ?_
  subst he
  exact ⟨_, rfl, _, _, _, [], _, [], hW', trodAll_mk1 (shut_bool Try.underlying4 _), (trodAll_cons_mk (Below.trod laidOut (by kernel_rfl) (of_decide_eq_true (by kernel_rfl)) k0 bel lt0) (trodAll_cons_mk (shut_pair Try.underlying107 (by kernel_rfl) (by kernel_rfl) Try.underlying2 Try.underlying2 w1x w1y) (trodAll_cons_mk (Below.trod laidOut (by kernel_rfl) (of_decide_eq_true (by kernel_rfl)) k2 bel lt2) trodAll_mk0))), rfl, bel.frame _, fun h => by cases h⟩

set_option maxHeartbeats 8000000 in
theorem over : Rows.fnExactSteerWeightsRow.holds Try.pinned (OpenSpec.ofChange Rows.fnExactSteerWeightsSpec) :=
  OpenClaim.holds_of_wide 9 Try.f9 rfl rfl rfl rfl rfl rfl rfl ⟨rfl, rfl, rfl, rfl, rfl⟩ rfl rfl rfl rfl rfl (by as_aux_lemma => kernel_rfl) Try.func9 (by as_aux_lemma => kernel_rfl)
    (of_decide_eq_true (by as_aux_lemma => kernel_rfl)) (by unfold Func.isWrapper; first | (rw [if_pos (by decide +kernel)]; kernel_rfl) | (rw [if_neg (by decide +kernel)]; exact ⟨rfl, rfl⟩))
    (fun os started H enc _ => lifted os started H enc)

theorem proved : Rows.FnExactSteerWeightsSaid := over
#print axioms proved
end Go.Proofs.Ytkjmlpdbnnmlhab.steerWeights
