/- What the law on SnapshotOf does. -/
import Derived.Test.YtabbfpjngbiohaaRows
import Derived.Test.YtabbfpjngbiohaaSlc
import Derived.Test.YtabbfpjngbiohaaSmall
import Derived.Test.YtabbfpjngbiohaaOpens
import Derived.Test.YtabbfpjngbiohaaPlaces
import Derived.Test.YtabbfpjngbiohaaPlaceSet
import Derived.Test.YtabbfpjngbiohaaListP
import Derived.Test.YtabbfpjngbiohaaSteps
import Derived.Test.YtabbfpjngbiohaaFloats
import Derived.Test.YtabbfpjngbiohaaRound
import Derived.Test.YtabbfpjngbiohaaValues
import Derived.Test.YtabbfpjngbiohaaConv
import Derived.Test.YtabbfpjngbiohaaFWalk
import Derived.Test.YtabbfpjngbiohaaFinWalk
import Derived.Test.YtabbfpjngbiohaaRoot
import Derived.Test.YtabbfpjngbiohaaFloat2
import Derived.Test.YtabbfpjngbiohaaFloat3
import Derived.Test.YtabbfpjngbiohaaPhase
import Derived.Test.YtabbfpjngbiohaaSine
import Derived.Test.YtabbfpjngbiohaaPhasor
import Derived.Test.YtabbfpjngbiohaaListC
import Derived.Test.YtabbfpjngbiohaaListCC
import Derived.Test.YtabbfpjngbiohaaSteerNum
import Derived.Test.YtabbfpjngbiohaaSineIn
import Derived.Test.YtabbfpjngbiohaaPolyNum
import Derived.Test.YtabbfpjngbiohaaPolyW
import Derived.Test.YtabbfpjngbiohaaGPoly
import Derived.Test.YtabbfpjngbiohaaGNum
import Derived.Test.YtabbfpjngbiohaaRq
import Derived.Test.YtabbfpjngbiohaaPowW
import Derived.Test.YtabbfpjngbiohaaTwinNum
import Derived.Test.YtabbfpjngbiohaaPhDef
import Derived.Test.YtabbfpjngbiohaaPhTabA
import Derived.Test.YtabbfpjngbiohaaPhTabB
import Derived.Test.YtabbfpjngbiohaaPhTabC
import Derived.Test.YtabbfpjngbiohaaPhTabD
import Derived.Test.YtabbfpjngbiohaaPhVal
import Derived.Test.YtabbfpjngbiohaaPhMath
import Derived.Test.YtabbfpjngbiohaaPhPhi
import Derived.Test.YtabbfpjngbiohaaSteerR
import Derived.Test.YtabbfpjngbiohaaMulAny
import Derived.Test.YtabbfpjngbiohaaFitsAny
import Derived.Test.YtabbfpjngbiohaaSeeds
import Derived.Test.YtabbfpjngbiohaaSymbol
import Derived.Test.YtabbfpjngbiohaaNoise
import Derived.Test.YtabbfpjngbiohaaSources
import Derived.Test.YtabbfpjngbiohaaListSrc
import Derived.Test.YtabbfpjngbiohaaSrcs
import Derived.Test.YtabbfpjngbiohaaSteering
import Derived.Test.YtabbfpjngbiohaaShot
import Derived.Test.YtabbfpjngbiohaaShotS
import Derived.Test.YtabbfpjngbiohaaSnap
import Derived.WalkKit
import Derived.ProofKit
import Derived.OpenShut
import Derived.ShutString
import Derived.ChangeOld
import Derived.Below
import Derived.Lib.Hide
import Derived.BigQuiet
import Derived.Deep.QuietTactic
import Derived.WalkLawsBesides
import Derived.Outline
import Derived.Deep.LoopGhost
import Derived.Deep.RegionHeld3
namespace Go.Proofs.Ytabbfpjngbiohaa.snapLaw
open Go.ChangeShapes Go.WideShapes Go.ChangeAt Go.RowKit
open Go.ChangeMaps (open_string shut_string)
set_option linter.unusedVariables false
open Go Ieee Go.RowKit
open Go.Proofs.Ytabbfpjngbiohaa.slc Go.Proofs.Ytabbfpjngbiohaa.small Go.Proofs.Ytabbfpjngbiohaa.opens Go.Proofs.Ytabbfpjngbiohaa.places Go.Proofs.Ytabbfpjngbiohaa.placeSet Go.Proofs.Ytabbfpjngbiohaa.listP Go.Proofs.Ytabbfpjngbiohaa.listC Go.Proofs.Ytabbfpjngbiohaa.listCC Go.Proofs.Ytabbfpjngbiohaa.sources Go.Proofs.Ytabbfpjngbiohaa.listSrc Go.Proofs.Ytabbfpjngbiohaa.shot Go.Proofs.Ytabbfpjngbiohaa.snap

theorem so_len (ps : List (Int × Int)) (ss : List (Int × Int × Nat × Int)) (s i : Int) : (if soOk ps ss s i = true then ps.length else 0) ≤ 16 := by
  split
  · rename_i h
    unfold soOk at h
    rw [Bool.and_eq_true] at h
    exact (vp_yes (caOk_of h.1).1).2.1
  · exact Nat.zero_le _
theorem eqN (A A' : Option Addr) (c d B n : Nat) (l m : List (Nat × Nat)) (w : World) (hl : l.length = n) (hm : m.length = n) (hn : n ≤ 64) (hB : B ≤ w.heap.size) (hs : SameL l m) (ha : Rd w B A n (ccell l)) (hb : Rd w B A' n (ccell m)) :
    Calls Try.prog 46 #[.slice A n c, .slice A' n d] w fun e w' => e = .returned (.bool true) ∧ w.grownBy w' none := by
  subst hl
  have h := eqC_can A A' c d B l m w (by omega) hB hs ha (by rw [hm]; exact hb)
  rw [hm] at h
  exact h
theorem own_blk (A : Option Addr) (n c : Nat) : (Value.slice A n c).ownBlock = A.map Addr.block := by cases A <;> rfl
theorem markSk (A : Option Addr) (n c base k : Nat) (e : TypeId) (f : Nat → Value) (w : World) (hn : n * 4 + (k * 2 + 1) ≤ 4611686018427387904) (ho : w.ownsRow base e 4 (.slice A n c) n (lst f (n * 4))) :
    Calls Try.prog 49 #[.slice A n c, .int .i64 ((k : Int) * 2 + 1)] w fun en w' => en = .returned (.int .i64 ((k * 2 + 1 + n * 4 : Nat) : Int)) ∧ w.grownBy w' (A.map Addr.block) := by
  have h := markS A n c base e (k * 2 + 1) f w hn ho
  rw [show ((k * 2 + 1 : Nat) : Int) = (k : Int) * 2 + 1 by omega] at h
  exact h

set_option maxHeartbeats 8000000 in
set_option maxRecDepth 100000 in
theorem law (A : Option Addr) (c : Nat) (ps : List (Int × Int)) (A' : Option Addr) (c' : Nat) (ss : List (Int × Int × Nat × Int)) (t : Nat) (s i : Int) (n : Nat) (ok : Bool) (w : World) (hm : ps.length ≤ 9223372036854775807) (hm' : ss.length ≤ 9223372036854775807) (hn : n ≤ 16) (hr : Rd w w.heap.size A (ps.length * 2) (pcell ps)) (hf : Rd w w.heap.size A' (ss.length * 4) (scell ss))
    (hs : Sno 43 ps ss t s i n ok) (hi : Sno 45 ps ss t s i n ok) :
    Calls Try.prog 9 #[.slice A ps.length c, .slice A' ss.length c', .float .f32 t, .int .i64 s, .int .i64 i] w fun e w' => e = .returned (.bool true) ∧ Below w.heap.size w w' := by
  have hp := pcell_ints ps (ps.length * 2)
  by_cases hlen : ps.length ≤ 1048576
  · have l0 : (0 : Int) ≤ 1048576 - (ps.length : Int) := by omega
    have l1 : 1048576 - (ps.length : Int) ≤ 1048576 := by omega
    by_cases hsl : (ss.length : Int) ≤ 1048576 - (ps.length : Int)
    · have hsl' : ss.length ≤ 1048576 := by omega
      have HS := Lib.hid hs
      have HI := Lib.hid hi
      have HR := Lib.hid (fun (w' : World) (hg : w.grownBy w' none) => (hr.kept0 hg (Nat.le_refl _)).mono hg.size)
      have HF := Lib.hid (fun (w' : World) (hg : w.grownBy w' none) => (hf.kept0 hg (Nat.le_refl _)).mono hg.size)
      clear hs hi hr hf
      go_enter Try.func9, Try.ntmps9
      go_wp2_with fail
      refine (szP _ _ _ _ hlen).mono ?_
      rintro e w' ⟨rfl, rfl⟩
      go_wp2_with fail
      refine (szS2 _ _ _ _ _ l0 l1 hsl).mono ?_
      rintro e w' ⟨rfl, rfl⟩
      go_wp2_with fail
      refine (toP _ _ _ _ _ hlen hp (HR.out _ (World.grownBy.refl _ _))).mono ?_
      rintro e w1 ⟨A1, c1, rfl, ho1, hg1⟩
      have R1 := Rd.of_lst ho1 rfl
      go_wp2_with fail
      refine (toS _ _ _ _ _ hsl' (HF.out _ hg1)).mono ?_
      rintro e w2 ⟨A2, c2, rfl, ho2, hg2⟩
      have R2 := Rd.of_lst ho2 rfl
      have g2 := hg1.trans hg2
      go_wp2_with fail
      refine (HS.out _ _ _ _ _ _ hm hm' ((R1.kept0 hg2 (Nat.le_refl _)).mono hg2.size) R2 (Nat.le_refl _)).mono ?_
      rintro e w3 ⟨A3, c3, l3, rfl, hl3, ho3, hg3⟩
      have S3 := Rd.of_lst ho3 (Nat.mul_one _).symm
      have g3 := g2.trans hg3
      have h64 : n ≤ 64 := by omega
      have n65 : n ≤ 65536 := by omega
      clear ho1 ho2 R1 R2 g2
      go_wp2_with fail
      refine (toP _ _ _ _ _ hlen hp (HR.out _ g3)).mono ?_
      rintro e w4 ⟨A4, c4, rfl, ho4, hg4⟩
      have R4 := Rd.of_lst ho4 rfl
      have g4 := g3.trans hg4
      go_wp2_with fail
      refine (toS _ _ _ _ _ hsl' (HF.out _ g4)).mono ?_
      rintro e w5 ⟨A5, c5, rfl, ho5, hg5⟩
      have F5 := Rd.of_lst ho5 rfl
      have h35 := hg4.trans hg5
      go_wp2_with fail
      refine (HI.out _ _ _ _ _ _ hm hm' ((R4.kept0 hg5 (Nat.le_refl _)).mono hg5.size) F5 (Nat.le_refl _)).mono ?_
      rintro e w7 ⟨A7, c7, l7, rfl, hl7, ho7, hg7⟩
      have S7 := Rd.of_lst ho7 (Nat.mul_one _).symm
      have h37 := h35.trans hg7
      have g7 := g3.trans h37
      have hsame := hl7.same hl3
      go_wp2_with fail
      refine (eqN _ _ _ _ _ _ _ _ _ hl7.1 hl3.1 h64 (Nat.le_refl _) hsame S7 ((S3.kept0 h37 (Nat.le_refl _)).mono h37.size)).mono ?_
      rintro e w8 ⟨rfl, hg8⟩
      have g8 := g7.trans hg8
      go_wp2_with fail
      refine (toP _ _ _ _ _ hlen hp (HR.out _ g8)).mono ?_
      rintro e w9 ⟨A9, c9, rfl, ho9, hg9⟩
      have R9 := Rd.of_lst ho9 rfl
      have h49 := ((hg5.trans hg7).trans hg8).trans hg9
      go_wp2_with fail
      refine (eqP_true _ _ _ _ _ _ _ _ hm (Nat.le_refl _) hp ((R4.kept0 h49 (Nat.le_refl _)).mono h49.size) R9).mono ?_
      rintro e w10 ⟨rfl, hg10⟩
      have g10 := (g8.trans hg9).trans hg10
      go_wp2_with fail
      refine (toS _ _ _ _ _ hsl' (HF.out _ g10)).mono ?_
      rintro e w11 ⟨A11, c11, rfl, ho11, hg11⟩
      have F11 := Rd.of_lst ho11 rfl
      have h711 := ((hg8.trans hg9).trans hg10).trans hg11
      have h511 := hg7.trans h711
      go_wp2_with fail
      refine (eqS_true _ _ _ _ _ _ _ _ hm' (Nat.le_refl _) ((F5.kept0 h511 (Nat.le_refl _)).mono h511.size) F11).mono ?_
      rintro e w12 ⟨rfl, hg12⟩
      have h712 := h711.trans hg12
      have h512 := h511.trans hg12
      have h412 := hg5.trans h512
      have h312 := hg4.trans h412
      have g12 := g3.trans h312
      have ho412 := own_kept0 ho4 h412
      go_wp2_with fail
      refine (markP1 _ _ _ _ _ _ _ (by omega) ho412).mono ?_
      rintro e w13 ⟨rfl, _, hg13⟩
      have b4 := own_base ho4
      have b5 := own_base ho5
      have b7 := own_base ho7
      have z03 := g3.size
      have z45 := hg5.size
      have z57 := hg7.size
      have z34 := hg4.size
      have z712 := h712.size
      have z512 := h512.size
      have z312 := h312.size
      have z13 := hg13.size
      have f47 : ∀ b, A7.map Addr.block = some b → some b ≠ A4.map Addr.block := fun b hb e => by
        have x1 := (b7 b hb).1
        have x2 := (b4 b e.symm).2
        omega
      have f57 : ∀ b, A7.map Addr.block = some b → some b ≠ A5.map Addr.block := fun b hb e => by
        have x1 := (b7 b hb).1
        have x2 := (b5 b e.symm).2
        omega
      have f45 : ∀ b, A5.map Addr.block = some b → some b ≠ A4.map Addr.block := fun b hb e => by
        have x1 := (b5 b hb).1
        have x2 := (b4 b e.symm).2
        omega
      have hob : ∀ (A' : Option Addr) (nn cc : Nat) (Z : Option Nat), (∀ b, A'.map Addr.block = some b → some b ≠ Z) → (Value.slice A' nn cc).ownBlock = none ∨ (Value.slice A' nn cc).ownBlock ≠ Z := fun A' nn cc Z hz => by
        cases h6 : (Value.slice A' nn cc).ownBlock with
        | none => exact .inl rfl
        | some b => exact .inr (hz b (by rw [own_blk] at h6; exact h6))
      have ho513 := (own_kept0 ho5 h512).kept hg13 (hob _ _ _ _ f45)
      go_wp2_with fail
      refine (markSk _ _ _ _ _ _ _ _ (by omega) ho513).mono ?_
      rintro e w14 ⟨rfl, hg14⟩
      have z14 := hg14.size
      have S713 := (S7.kept0 h712 (Nat.le_refl _)).kept hg13 h712.size (fun b hb _ => f47 b hb)
      have S714 := S713.kept hg14 (Nat.le_trans h712.size hg13.size) (fun b hb _ => f57 b hb)
      have S313 := (S3.kept0 h312 (Nat.le_refl _)).kept hg13 h312.size (far_of ho4 (Nat.le_refl _))
      have S314 := S313.kept hg14 (Nat.le_trans h312.size hg13.size) (far_of ho5 z34)
      have zz7 : w7.heap.size ≤ w14.heap.size := by omega
      have zz3 : w3.heap.size ≤ w14.heap.size := by omega
      have ho714 := ((own_kept0 ho7 h712).kept hg13 (hob _ _ _ _ f47)).kept hg14 (hob _ _ _ _ f57)
      have g13 := gb_new g12 hg13 (base_of ho4 z03)
      have g14 := gb_new g13 hg14 (base_of ho5 (Nat.le_trans z03 z34))
      clear S713 S313 S3 S7
      go_wp2_with fail
      refine (eqN _ _ _ _ _ _ _ _ _ hl7.1 hl3.1 h64 (Nat.le_refl _) hsame (S714.mono zz7) (S314.mono zz3)).mono ?_
      rintro e w15 ⟨rfl, hg15⟩
      have ho715 := own_kept0 ho714 hg15
      have S315 := S314.kept0 hg15 zz3
      have z15 := hg15.size
      have g15 := g14.trans hg15
      go_wp2_with fail
      refine (markC1 _ _ _ _ _ _ _ n65 ho715).mono ?_
      rintro e w16 ⟨rfl, ho16, hg16⟩
      have z35 : w3.heap.size ≤ w5.heap.size := by omega
      have S316 := S315.kept hg16 (by omega) (far_of ho7 z35)
      have z16 := hg16.size
      have z3e : w3.heap.size ≤ w16.heap.size := by omega
      have M16 := Rd.of_lst ho16 (Nat.mul_one _).symm
      have g16 := gb_new g15 hg16 (base_of ho7 (by omega))
      go_wp2_with fail
      refine (heldC1 _ _ _ _ _ n65 M16).mono ?_
      rintro e w' ⟨rfl, rfl⟩
      have HL3 := Lib.hid hl3
      clear hob f45 f57 f47 b4 b5 b7 ho3 ho4 ho5 ho7 ho9 ho11 ho412 ho513 ho714 ho715 ho16 S714 S314 S315 R4 R9 F5 F11 hg1 hg2 hg3 hg4 hg5 hg7 hg8 hg9 hg10 hg11 hg12 hg13 hg14 hg15 hg16 h35 h37 h49 h711 h511 h712 h512 h412 h312 z45 z57 z34 z712 z512 z312 z13 z14 z15 z35 z03 zz7 zz3 g3 g4 g7 g8 g10 g12 g13 g14 g15 hl3 hl7 hsame
      go_wp2_with fail
      refine (toP _ _ _ _ _ hlen hp (HR.out _ g16)).mono ?_
      rintro e w17 ⟨A17, c17, rfl, ho17, hg17⟩
      have R17 := Rd.of_lst ho17 rfl
      have g17 := g16.trans hg17
      go_wp2_with fail
      refine (toS _ _ _ _ _ hsl' (HF.out _ g17)).mono ?_
      rintro e w18 ⟨A18, c18, rfl, ho18, hg18⟩
      have F18 := Rd.of_lst ho18 rfl
      go_wp2_with fail
      refine (HI.out _ _ _ _ _ _ hm hm' ((R17.kept0 hg18 (Nat.le_refl _)).mono hg18.size) F18 (Nat.le_refl _)).mono ?_
      rintro e w20 ⟨A20, c20, l20, rfl, hl20, ho20, hg20⟩
      have h1620 := (hg17.trans hg18).trans hg20
      have S20 := Rd.of_lst ho20 (Nat.mul_one _).symm
      have z320 := Nat.le_trans z3e h1620.size
      go_wp2_with fail
      refine (eqN _ _ _ _ _ _ _ _ _ hl20.1 HL3.out.1 h64 (Nat.le_refl _) (hl20.same HL3.out) S20 ((S316.kept0 h1620 z3e).mono z320)).mono ?_
      rintro e w21 ⟨rfl, hg21⟩
      have M21 := M16.kept0 (h1620.trans hg21) (Nat.le_refl _)
      have HB := Lib.hid (gb_below ((g16.trans h1620).trans hg21))
      clear S316 hg17 hg18 hg20 h1620 hg21 g16 g17 ho17 ho18 ho20 S20 R17 F18
      go_wp2_with fail
      refine (heldC1 _ _ _ _ _ n65 M21).mono ?_
      rintro e w' ⟨rfl, rfl⟩
      go_wp2_with fail
      go_ret
      exact ⟨rfl, HB.out⟩
    · have hsl2 : 1048576 - (ps.length : Int) < (ss.length : Int) := by omega
      go_enter Try.func9, Try.ntmps9
      go_wp2_with fail
      refine (szP _ _ _ _ hlen).mono ?_
      rintro e w' ⟨rfl, rfl⟩
      go_wp2_with fail
      refine (szS2_no _ _ _ _ _ l0 l1 hsl2 hm').mono ?_
      rintro e w' ⟨rfl, rfl⟩
      go_wp2_with fail
      go_ret
      exact ⟨rfl, Below.refl _ _⟩
  · go_enter Try.func9, Try.ntmps9
    go_wp2_with fail
    refine (szP_no _ _ _ _ (by omega) hm).mono ?_
    rintro e w' ⟨rfl, rfl⟩
    go_wp2_with fail
    go_ret
    exact ⟨rfl, Below.refl _ _⟩

theorem walk (a0 : Option Addr) (len0 cap0 : Nat) (z0 : List (Int × Int)) (a1 : Option Addr) (len1 cap1 : Nat) (z1 : List (Int × Int × Nat × Int)) (a2 : Nat) (a3 a4 : Int) (w : World) (l0 : z0.length = len0) (m0 : len0 ≤ maxLen) (w0 : ∀ x ∈ z0, (Lit.int .i64 x.1).wf = true ∧ (Lit.int .i64 x.2).wf = true) (r0 : Rd w w.heap.size a0 (len0 * 2) (pcell z0))
    (l1 : z1.length = len1) (m1 : len1 ≤ maxLen) (w1 : ∀ x ∈ z1, SWf x) (r1 : Rd w w.heap.size a1 (len1 * 4) (scell z1)) (w2 : (Lit.float .f32 a2).wf = true) (w3 : (Lit.int .i64 a3).wf = true) (w4 : (Lit.int .i64 a4).wf = true) :
    Calls Try.prog 9 #[.slice a0 len0 cap0, .slice a1 len1 cap1, .float .f32 a2, .int .i64 a3, .int .i64 a4] w fun e w' => e = .returned (.bool true) ∧ Below w.heap.size w w' := by
  subst l0 l1
  unfold maxLen at m0 m1
  exact law a0 cap0 z0 a1 cap1 z1 a2 a3 a4 _ _ w (by omega) (by omega) (so_len z0 z1 a3 a4) r0 r1 (snap_s z0 z1 a2 a3 a4) (snap_i z0 z1 a2 a3 a4)

end Go.Proofs.Ytabbfpjngbiohaa.snapLaw
