/- What the law on SnapshotsOf does. -/
import Derived.Test.YtabbfpjngbiohaaRows
import Derived.Test.YtabbfpjngbiohaaSlc
import Derived.Test.YtabbfpjngbiohaaSmall
import Derived.Test.YtabbfpjngbiohaaOpens
import Derived.Test.YtabbfpjngbiohaaPlaces
import Derived.Test.YtabbfpjngbiohaaPlaceSet
import Derived.Test.YtabbfpjngbiohaaListP
import Derived.Test.YtabbfpjngbiohaaSteps
import Derived.Test.YtabbfpjngbiohaaFloats
import Derived.Test.YtabbfpjngbiohaaRound
import Derived.Test.YtabbfpjngbiohaaValues
import Derived.Test.YtabbfpjngbiohaaConv
import Derived.Test.YtabbfpjngbiohaaFWalk
import Derived.Test.YtabbfpjngbiohaaFinWalk
import Derived.Test.YtabbfpjngbiohaaRoot
import Derived.Test.YtabbfpjngbiohaaFloat2
import Derived.Test.YtabbfpjngbiohaaFloat3
import Derived.Test.YtabbfpjngbiohaaPhase
import Derived.Test.YtabbfpjngbiohaaSine
import Derived.Test.YtabbfpjngbiohaaPhasor
import Derived.Test.YtabbfpjngbiohaaListC
import Derived.Test.YtabbfpjngbiohaaListCC
import Derived.Test.YtabbfpjngbiohaaSteerNum
import Derived.Test.YtabbfpjngbiohaaSineIn
import Derived.Test.YtabbfpjngbiohaaPolyNum
import Derived.Test.YtabbfpjngbiohaaPolyW
import Derived.Test.YtabbfpjngbiohaaGPoly
import Derived.Test.YtabbfpjngbiohaaGNum
import Derived.Test.YtabbfpjngbiohaaRq
import Derived.Test.YtabbfpjngbiohaaPowW
import Derived.Test.YtabbfpjngbiohaaTwinNum
import Derived.Test.YtabbfpjngbiohaaPhDef
import Derived.Test.YtabbfpjngbiohaaPhTabA
import Derived.Test.YtabbfpjngbiohaaPhTabB
import Derived.Test.YtabbfpjngbiohaaPhTabC
import Derived.Test.YtabbfpjngbiohaaPhTabD
import Derived.Test.YtabbfpjngbiohaaPhVal
import Derived.Test.YtabbfpjngbiohaaPhMath
import Derived.Test.YtabbfpjngbiohaaPhPhi
import Derived.Test.YtabbfpjngbiohaaSteerR
import Derived.Test.YtabbfpjngbiohaaMulAny
import Derived.Test.YtabbfpjngbiohaaFitsAny
import Derived.Test.YtabbfpjngbiohaaSeeds
import Derived.Test.YtabbfpjngbiohaaSymbol
import Derived.Test.YtabbfpjngbiohaaNoise
import Derived.Test.YtabbfpjngbiohaaSources
import Derived.Test.YtabbfpjngbiohaaListSrc
import Derived.Test.YtabbfpjngbiohaaSrcs
import Derived.Test.YtabbfpjngbiohaaSteering
import Derived.Test.YtabbfpjngbiohaaShot
import Derived.Test.YtabbfpjngbiohaaShotS
import Derived.Test.YtabbfpjngbiohaaSnap
import Derived.Test.YtabbfpjngbiohaaNest
import Derived.Test.YtabbfpjngbiohaaNestL
import Derived.Test.YtabbfpjngbiohaaSnaps
import Derived.WalkKit
import Derived.ProofKit
import Derived.OpenShut
import Derived.ShutString
import Derived.ChangeOld
import Derived.Below
import Derived.Lib.Hide
import Derived.BigQuiet
import Derived.Deep.QuietTactic
import Derived.WalkLawsBesides
import Derived.Outline
import Derived.Deep.LoopGhost
import Derived.Deep.RegionHeld3
namespace Go.Proofs.Ytabbfpjngbiohaa.snapsLaw
open Go.ChangeShapes Go.WideShapes Go.ChangeAt Go.RowKit
open Go.ChangeMaps (open_string shut_string)
set_option linter.unusedVariables false
open Go Ieee Go.RowKit
open Go.Proofs.Ytabbfpjngbiohaa.slc Go.Proofs.Ytabbfpjngbiohaa.small Go.Proofs.Ytabbfpjngbiohaa.opens Go.Proofs.Ytabbfpjngbiohaa.places Go.Proofs.Ytabbfpjngbiohaa.placeSet Go.Proofs.Ytabbfpjngbiohaa.listP Go.Proofs.Ytabbfpjngbiohaa.listC Go.Proofs.Ytabbfpjngbiohaa.listCC Go.Proofs.Ytabbfpjngbiohaa.sources Go.Proofs.Ytabbfpjngbiohaa.listSrc Go.Proofs.Ytabbfpjngbiohaa.shot Go.Proofs.Ytabbfpjngbiohaa.snap Go.Proofs.Ytabbfpjngbiohaa.nest Go.Proofs.Ytabbfpjngbiohaa.snaps

theorem mk_small (m : Nat) (hm : m ≤ 16) : ∀ n, n ≤ 64 → mk 1 m n ≤ 1 + 16 * n
  | 0, _ => Nat.le_refl _
  | n + 1, h => by
    have := mk_small m hm n (by omega)
    show mk 1 m n + m ≤ _
    omega
theorem RdN.below {w w' : World} {B n m : Nat} {O : Option Addr} {a c : Nat → Nat} {f : Nat → Nat → Value} (h : RdN w B O n m a c f) (hb : Below B w w') : RdN w' B O n m a c f :=
  ⟨h.1.below hb, fun k hk => (h.2 k hk).below hb⟩
theorem below_trans {B B' : Nat} {a b c : World} (h : Below B a b) (k : Below B' b c) (hB : B ≤ B') : Below B a c :=
  ⟨k.os.trans h.os, k.tape.trans h.tape, k.output.trans h.output, Nat.le_trans h.size k.size, fun i hi => (k.block i (by omega)).trans (h.block i hi)⟩
theorem own_blk (A : Option Addr) (n c : Nat) : (Value.slice A n c).ownBlock = A.map Addr.block := by cases A <;> rfl
theorem OwnN.far {w w' : World} {base n m : Nat} {O : Option Addr} {d : Nat} {a c : Nat → Nat} {f : Nat → Nat → Value} {Z : Option Nat} (h : OwnN w base (.slice O n d) n m a c f) (hg : w.grownBy w' Z) (hz : ∀ z, Z = some z → z < base) : OwnN w' base (.slice O n d) n m a c f :=
  ⟨World.ownsRow.kept h.outer hg (by
      cases h6 : (Value.slice O n d).ownBlock with
      | none => exact .inl rfl
      | some b =>
        refine .inr fun e => ?_
        have hb : O.map Addr.block = some b := by rw [← own_blk O n d]; exact h6
        have := (own_base h.outer b hb).1
        have := hz b e.symm
        omega), fun k hk => World.ownsRow.kept (h.rows k hk) hg (.inr fun e => by
      have := (own_base (h.rows k hk) (a k) rfl).1
      have := hz (a k) e.symm
      omega), h.apart, h.other⟩
theorem gb_far {B : Nat} {w w' : World} {Z : Option Nat} (hg : w.grownBy w' Z) (hz : ∀ z, Z = some z → B ≤ z) (hB : B ≤ w.heap.size) : Below B w w' :=
  ⟨hg.os, hg.tape, hg.output, hg.size, fun k hk => hg.block k (by omega) (fun e => by have := hz k e.symm; omega)⟩
theorem markSk (A : Option Addr) (n c base k : Nat) (e : TypeId) (f : Nat → Value) (w : World) (hn : n * 4 + (k * 2 + 1) ≤ 4611686018427387904) (ho : w.ownsRow base e 4 (.slice A n c) n (lst f (n * 4))) :
    Calls Try.prog 49 #[.slice A n c, .int .i64 ((k : Int) * 2 + 1)] w fun en w' => en = .returned (.int .i64 ((k * 2 + 1 + n * 4 : Nat) : Int)) ∧ w.grownBy w' (A.map Addr.block) := by
  have h := markS A n c base e (k * 2 + 1) f w hn ho
  rw [show ((k * 2 + 1 : Nat) : Int) = (k : Int) * 2 + 1 by omega] at h
  exact h

set_option maxHeartbeats 8000000 in
set_option maxRecDepth 100000 in
theorem law (A : Option Addr) (c : Nat) (ps : List (Int × Int)) (A' : Option Addr) (c' : Nat) (ss : List (Int × Int × Nat × Int)) (t : Nat) (s f N : Int) (n m : Nat) (ok : Bool) (w : World) (hm : ps.length ≤ 9223372036854775807) (hm' : ss.length ≤ 9223372036854775807) (hn : n ≤ 64) (hm1 : 1 ≤ m) (hm16 : m ≤ 16) (hr : Rd w w.heap.size A (ps.length * 2) (pcell ps)) (hf : Rd w w.heap.size A' (ss.length * 4) (scell ss))
    (hs : Sns 52 ps ss t s f N n m ok) (hi : Sns 53 ps ss t s f N n m ok) :
    Calls Try.prog 10 #[.slice A ps.length c, .slice A' ss.length c', .float .f32 t, .int .i64 s, .int .i64 f, .int .i64 N] w fun e w' => e = .returned (.bool true) ∧ Below w.heap.size w w' := by
  have hp := pcell_ints ps (ps.length * 2)
  by_cases hlen : ps.length ≤ 1048576
  · have l0 : (0 : Int) ≤ 1048576 - (ps.length : Int) := by omega
    have l1 : 1048576 - (ps.length : Int) ≤ 1048576 := by omega
    by_cases hsl : (ss.length : Int) ≤ 1048576 - (ps.length : Int)
    · have hsl' : ss.length ≤ 1048576 := by omega
      have HS := Lib.hid hs
      have HI := Lib.hid hi
      have HR := Lib.hid (fun (w' : World) (hg : w.grownBy w' none) => (hr.kept0 hg (Nat.le_refl _)).mono hg.size)
      have HF := Lib.hid (fun (w' : World) (hg : w.grownBy w' none) => (hf.kept0 hg (Nat.le_refl _)).mono hg.size)
      have hmk := mk_small m hm16 n hn
      have n65 : n ≤ 65536 := by omega
      have mkb : mk 1 m n ≤ 1048576 := by omega
      have nb : n ≤ 9223372036854775807 := by omega
      have mb : m ≤ 9223372036854775807 := by omega
      clear hs hi hr hf
      go_enter Try.func10, Try.ntmps10
      go_wp2_with fail
      refine (szP _ _ _ _ hlen).mono ?_
      rintro e w' ⟨rfl, rfl⟩
      go_wp2_with fail
      refine (szS2 _ _ _ _ _ l0 l1 hsl).mono ?_
      rintro e w' ⟨rfl, rfl⟩
      go_wp2_with fail
      refine (toP _ _ _ _ _ hlen hp (HR.out _ (World.grownBy.refl _ _))).mono ?_
      rintro e w1 ⟨A1, c1, rfl, ho1, hg1⟩
      have R1 := Rd.of_lst ho1 rfl
      go_wp2_with fail
      refine (toS _ _ _ _ _ hsl' (HF.out _ hg1)).mono ?_
      rintro e w2 ⟨A2, c2, rfl, ho2, hg2⟩
      have R2 := Rd.of_lst ho2 rfl
      have g2 := hg1.trans hg2
      go_wp2_with fail
      refine (HS.out _ _ _ _ _ _ hm hm' ((R1.kept0 hg2 (Nat.le_refl _)).mono hg2.size) R2 (Nat.le_refl _)).mono ?_
      rintro e w3 ⟨A3, d3, a3, c3, l3, rfl, hl3, ho3, hg3⟩
      have S3 := ho3.rd
      have g3 := g2.trans hg3
      clear ho1 ho2 R1 R2 g2
      go_wp2_with fail
      refine (toP _ _ _ _ _ hlen hp (HR.out _ g3)).mono ?_
      rintro e w4 ⟨A4, c4, rfl, ho4, hg4⟩
      have R4 := Rd.of_lst ho4 rfl
      have g4 := g3.trans hg4
      go_wp2_with fail
      refine (toS _ _ _ _ _ hsl' (HF.out _ g4)).mono ?_
      rintro e w5 ⟨A5, c5, rfl, ho5, hg5⟩
      have F5 := Rd.of_lst ho5 rfl
      have h35 := hg4.trans hg5
      go_wp2_with fail
      refine (HI.out _ _ _ _ _ _ hm hm' ((R4.kept0 hg5 (Nat.le_refl _)).mono hg5.size) F5 (Nat.le_refl _)).mono ?_
      rintro e w7 ⟨A7, d7, a7, c7, l7, rfl, hl7, ho7, hg7⟩
      have S7 := ho7.rd
      have h37 := h35.trans hg7
      have g7 := g3.trans h37
      have hlen7 : ∀ k, k < n → (l7 k).length = m := fun k hk => (hl7 k hk).1
      have hsame : ∀ k, k < n → SameL (l7 k) (l3 k) := fun k hk => (hl7 k hk).same (hl3 k hk)
      go_wp2_with fail
      refine (eqN _ _ _ _ _ _ _ _ _ _ _ _ _ _ nb mb (Nat.le_refl _) hlen7 hsame S7 ((S3.kept0 h37 (Nat.le_refl _)).mono h37.size)).mono ?_
      rintro e w8 ⟨rfl, hg8⟩
      have g8 := g7.trans hg8
      go_wp2_with fail
      refine (toP _ _ _ _ _ hlen hp (HR.out _ g8)).mono ?_
      rintro e w9 ⟨A9, c9, rfl, ho9, hg9⟩
      have R9 := Rd.of_lst ho9 rfl
      have h49 := ((hg5.trans hg7).trans hg8).trans hg9
      go_wp2_with fail
      refine (eqP_true _ _ _ _ _ _ _ _ hm (Nat.le_refl _) hp ((R4.kept0 h49 (Nat.le_refl _)).mono h49.size) R9).mono ?_
      rintro e w10 ⟨rfl, hg10⟩
      have g10 := (g8.trans hg9).trans hg10
      go_wp2_with fail
      refine (toS _ _ _ _ _ hsl' (HF.out _ g10)).mono ?_
      rintro e w11 ⟨A11, c11, rfl, ho11, hg11⟩
      have F11 := Rd.of_lst ho11 rfl
      have h711 := ((hg8.trans hg9).trans hg10).trans hg11
      have h511 := hg7.trans h711
      go_wp2_with fail
      refine (eqS_true _ _ _ _ _ _ _ _ hm' (Nat.le_refl _) ((F5.kept0 h511 (Nat.le_refl _)).mono h511.size) F11).mono ?_
      rintro e w12 ⟨rfl, hg12⟩
      have h712 := h711.trans hg12
      have h512 := h511.trans hg12
      have h412 := hg5.trans h512
      have h312 := hg4.trans h412
      have g12 := g3.trans h312
      have ho412 := own_kept0 ho4 h412
      go_wp2_with fail
      refine (markP1 _ _ _ _ _ _ _ (by omega) ho412).mono ?_
      rintro e w13 ⟨rfl, _, hg13⟩
      have b4 := own_base ho4
      have b5 := own_base ho5
      have z03 := g3.size
      have z45 := hg5.size
      have z57 := hg7.size
      have z34 := hg4.size
      have z712 := h712.size
      have z512 := h512.size
      have z312 := h312.size
      have z13 := hg13.size
      have f45 : ∀ b, A5.map Addr.block = some b → some b ≠ A4.map Addr.block := fun b hb e => by
        have x1 := (b5 b hb).1
        have x2 := (b4 b e.symm).2
        omega
      have hob : ∀ (A' : Option Addr) (nn cc : Nat) (Z : Option Nat), (∀ b, A'.map Addr.block = some b → some b ≠ Z) → (Value.slice A' nn cc).ownBlock = none ∨ (Value.slice A' nn cc).ownBlock ≠ Z := fun A' nn cc Z hz => by
        cases h6 : (Value.slice A' nn cc).ownBlock with
        | none => exact .inl rfl
        | some b => exact .inr (hz b (by rw [own_blk] at h6; exact h6))
      have ho513 := (own_kept0 ho5 h512).kept hg13 (hob _ _ _ _ f45)
      go_wp2_with fail
      refine (markSk _ _ _ _ _ _ _ _ (by omega) ho513).mono ?_
      rintro e w14 ⟨rfl, hg14⟩
      have z14 := hg14.size
      -- rows of the program: their blocks are at least w5's size; those of places and sources are below it
      have ho714 : OwnN w14 w5.heap.size (.slice A7 n d7) n m a7 c7 (fun k => ccell (l7 k)) := OwnN.far (OwnN.far (ho7.kept0 h712) hg13 (fun z hz => by have := b4 z hz; omega)) hg14 (fun z hz => by have := b5 z hz; omega)
      have B13 : Below w3.heap.size w12 w13 := gb_far hg13 (fun z hz => by have := b4 z hz; omega) z312
      have B14 : Below w3.heap.size w13 w14 := gb_far hg14 (fun z hz => by have := b5 z hz; omega) (by omega)
      have S314 := RdN.below (RdN.below (S3.kept0 h312 (Nat.le_refl _)) B13) B14
      have zz3 : w3.heap.size ≤ w14.heap.size := by omega
      have g13 := gb_new g12 hg13 (base_of ho4 z03)
      have g14 := gb_new g13 hg14 (base_of ho5 (Nat.le_trans z03 z34))
      clear S3 S7 B13 B14
      go_wp2_with fail
      refine (eqN _ _ _ _ _ _ _ _ _ _ _ _ _ _ nb mb (Nat.le_refl _) hlen7 hsame ho714.rd (S314.mono zz3)).mono ?_
      rintro e w15 ⟨rfl, hg15⟩
      have ho715 := ho714.kept0 hg15
      have S315 := S314.kept0 hg15 zz3
      have z15 := hg15.size
      have g15 := g14.trans hg15
      go_wp2_with fail
      refine (markN _ n m _ _ 1 _ _ _ _ hm1 n65 mkb ho715).mono ?_
      rintro e w16 ⟨rfl, ho16, on16⟩
      have hrows : ∀ i, i < n → w5.heap.size ≤ a7 i := fun i hi => (own_base (ho7.rows i hi) (a7 i) rfl).1
      have B16 : Below w3.heap.size w15 w16 := on16.below (by omega) (fun i hi => by have := hrows i hi; omega)
      have S316 := RdN.below S315 B16
      have z16 := on16.size
      have z3e : w3.heap.size ≤ w16.heap.size := by omega
      have M16 := ho16.rd
      have HB16 := Lib.hid (below_trans (gb_below g15) (B16) z03)
      have HBW := Lib.hid (on16.below (B := w.heap.size) (by omega) (fun i hi => by have := hrows i hi; omega))
      have g16 : w.grownBy w16 none := gb_of_below (below_trans (gb_below g15) HBW.out (Nat.le_refl _))
      go_wp2_with fail
      refine (heldN _ n m _ _ 1 _ _ _ hm1 n65 mkb M16).mono ?_
      rintro e w' ⟨rfl, rfl⟩
      have HL3 := Lib.hid hl3
      clear hob f45 b4 b5 ho3 ho4 ho5 ho7 ho9 ho11 ho412 ho513 ho714 ho715 ho16 on16 B16 HB16 HBW S314 S315 R4 R9 F5 F11 hg1 hg2 hg3 hg4 hg5 hg7 hg8 hg9 hg10 hg11 hg12 hg13 hg14 hg15 h35 h37 h49 h711 h511 h712 h512 h412 h312 z45 z57 z34 z712 z512 z312 z13 z14 z15 z03 zz3 g3 g4 g7 g8 g10 g12 g13 g14 g15 hl3 hl7 hsame hlen7 hrows
      go_wp2_with fail
      refine (toP _ _ _ _ _ hlen hp (HR.out _ g16)).mono ?_
      rintro e w17 ⟨A17, c17, rfl, ho17, hg17⟩
      have R17 := Rd.of_lst ho17 rfl
      have g17 := g16.trans hg17
      go_wp2_with fail
      refine (toS _ _ _ _ _ hsl' (HF.out _ g17)).mono ?_
      rintro e w18 ⟨A18, c18, rfl, ho18, hg18⟩
      have F18 := Rd.of_lst ho18 rfl
      go_wp2_with fail
      refine (HI.out _ _ _ _ _ _ hm hm' ((R17.kept0 hg18 (Nat.le_refl _)).mono hg18.size) F18 (Nat.le_refl _)).mono ?_
      rintro e w20 ⟨A20, d20, a20, c20, l20, rfl, hl20, ho20, hg20⟩
      have h1620 := (hg17.trans hg18).trans hg20
      have z320 := Nat.le_trans z3e h1620.size
      go_wp2_with fail
      refine (eqN _ _ _ _ _ _ _ _ _ _ _ _ _ _ nb mb (Nat.le_refl _) (fun k hk => (hl20 k hk).1) (fun k hk => (hl20 k hk).same (HL3.out k hk)) ho20.rd ((S316.kept0 h1620 z3e).mono z320)).mono ?_
      rintro e w21 ⟨rfl, hg21⟩
      have M21 := M16.kept0 (h1620.trans hg21) (Nat.le_refl _)
      have HB := Lib.hid (gb_below ((g16.trans h1620).trans hg21))
      clear S316 hg17 hg18 hg20 h1620 hg21 g16 g17 ho17 ho18 ho20 R17 F18
      go_wp2_with fail
      refine (heldN _ n m _ _ 1 _ _ _ hm1 n65 mkb M21).mono ?_
      rintro e w' ⟨rfl, rfl⟩
      go_wp2_with fail
      go_ret
      exact ⟨rfl, HB.out⟩
    · have hsl2 : 1048576 - (ps.length : Int) < (ss.length : Int) := by omega
      go_enter Try.func10, Try.ntmps10
      go_wp2_with fail
      refine (szP _ _ _ _ hlen).mono ?_
      rintro e w' ⟨rfl, rfl⟩
      go_wp2_with fail
      refine (szS2_no _ _ _ _ _ l0 l1 hsl2 hm').mono ?_
      rintro e w' ⟨rfl, rfl⟩
      go_wp2_with fail
      go_ret
      exact ⟨rfl, Below.refl _ _⟩
  · go_enter Try.func10, Try.ntmps10
    go_wp2_with fail
    refine (szP_no _ _ _ _ (by omega) hm).mono ?_
    rintro e w' ⟨rfl, rfl⟩
    go_wp2_with fail
    go_ret
    exact ⟨rfl, Below.refl _ _⟩

theorem walk (a0 : Option Addr) (len0 cap0 : Nat) (z0 : List (Int × Int)) (a1 : Option Addr) (len1 cap1 : Nat) (z1 : List (Int × Int × Nat × Int)) (a2 : Nat) (a3 a4 a5 : Int) (w : World) (l0 : z0.length = len0) (m0 : len0 ≤ maxLen) (w0 : ∀ x ∈ z0, (Lit.int .i64 x.1).wf = true ∧ (Lit.int .i64 x.2).wf = true) (r0 : Rd w w.heap.size a0 (len0 * 2) (pcell z0))
    (l1 : z1.length = len1) (m1 : len1 ≤ maxLen) (w1 : ∀ x ∈ z1, SWf x) (r1 : Rd w w.heap.size a1 (len1 * 4) (scell z1)) (w2 : (Lit.float .f32 a2).wf = true) (w3 : (Lit.int .i64 a3).wf = true) (w4 : (Lit.int .i64 a4).wf = true) (w5 : (Lit.int .i64 a5).wf = true) :
    Calls Try.prog 10 #[.slice a0 len0 cap0, .slice a1 len1 cap1, .float .f32 a2, .int .i64 a3, .int .i64 a4, .int .i64 a5] w fun e w' => e = .returned (.bool true) ∧ Below w.heap.size w w' := by
  subst l0 l1
  unfold maxLen at m0 m1
  obtain ⟨n, m, ok, h1, h2, h3, h4, h5⟩ := both z0 z1 a2 a3 a4 a5
  exact law a0 cap0 z0 a1 cap1 z1 a2 a3 a4 a5 n m ok w (by omega) (by omega) h1 h2 h3 r0 r1 h4 h5

end Go.Proofs.Ytabbfpjngbiohaa.snapsLaw
