/- What the law on FarBeams does. -/
import Derived.Test.YtkjmlpdbnnmlhaaRows
import Derived.Test.YtkjmlpdbnnmlhaaSlc
import Derived.Test.YtkjmlpdbnnmlhaaSmall
import Derived.Test.YtkjmlpdbnnmlhaaOpens
import Derived.Test.YtkjmlpdbnnmlhaaListI
import Derived.Test.YtkjmlpdbnnmlhaaNestI
import Derived.Test.YtkjmlpdbnnmlhaaBeams
import Derived.Test.YtkjmlpdbnnmlhaaListBeam
import Derived.Test.YtkjmlpdbnnmlhaaPlanNum
import Derived.Test.YtkjmlpdbnnmlhaaSwT
import Derived.Test.YtkjmlpdbnnmlhaaBeamsOk
import Derived.Test.YtkjmlpdbnnmlhaaPlanDue
import Derived.Test.YtkjmlpdbnnmlhaaFarF
import Derived.Test.YtkjmlpdbnnmlhaaNestG
import Derived.Test.YtkjmlpdbnnmlhaaFarC
import Derived.Test.YtkjmlpdbnnmlhaaFarS
import Derived.Test.YtkjmlpdbnnmlhaaPlanLaw
import Derived.Test.YtkjmlpdbnnmlhaaListSlot
import Derived.WalkKit
import Derived.ProofKit
import Derived.OpenShut
import Derived.ShutString
import Derived.ChangeOld
import Derived.Below
import Derived.Lib.Hide
import Derived.BigQuiet
import Derived.Deep.QuietTactic
import Derived.WalkLawsBesides
import Derived.Outline
import Derived.Deep.LoopGhost
import Derived.Deep.RegionHeld3
namespace Go.Proofs.Ytkjmlpdbnnmlhaa.farLaw
open Go.ChangeShapes Go.WideShapes Go.ChangeAt Go.RowKit
open Go.ChangeMaps (open_string shut_string)
set_option linter.unusedVariables false
open Go Go.RowKit
open Go.Proofs.Ytkjmlpdbnnmlhaa.slc Go.Proofs.Ytkjmlpdbnnmlhaa.small Go.Proofs.Ytkjmlpdbnnmlhaa.opens Go.Proofs.Ytkjmlpdbnnmlhaa.listI Go.Proofs.Ytkjmlpdbnnmlhaa.nestI Go.Proofs.Ytkjmlpdbnnmlhaa.beams Go.Proofs.Ytkjmlpdbnnmlhaa.listBeam Go.Proofs.Ytkjmlpdbnnmlhaa.planNum Go.Proofs.Ytkjmlpdbnnmlhaa.swT Go.Proofs.Ytkjmlpdbnnmlhaa.beamsOk Go.Proofs.Ytkjmlpdbnnmlhaa.planDue Go.Proofs.Ytkjmlpdbnnmlhaa.farF Go.Proofs.Ytkjmlpdbnnmlhaa.nestG Go.Proofs.Ytkjmlpdbnnmlhaa.farC Go.Proofs.Ytkjmlpdbnnmlhaa.farS Go.Proofs.Ytkjmlpdbnnmlhaa.planLaw

/-- How many numbers the row i holds, and the numbers. -/
def gm (G : List (List Nat)) (i : Nat) : Nat := (G.getD i []).length
def gf (G : List (List Nat)) (i : Nat) : Nat → Value := fun j => (ints (gz (G.getD i []))).getD j undef
theorem gf_ints (G : List (List Nat)) (i : Nat) : Ints (gf G i) (gm G i) := Ints.of _ _ (by rw [gz_len]; exact Nat.le_refl _)
theorem gf_lst (G : List (List Nat)) (i : Nat) : lst (gf G i) (gm G i) = ints (gz (G.getD i [])) := by
  have h := lst_of (ints (gz (G.getD i [])))
  rw [ints_len, gz_len] at h
  exact h
def blk (V : List Value) (i : Nat) : Nat := match V.getD i undef with | .slice (some ad) _ _ => ad.block | _ => 0
def cap (V : List Value) (i : Nat) : Nat := match V.getD i undef with | .slice _ _ c => c | _ => 0
theorem gs_own {w : World} {base : Nat} {v : Value} {G : List (List Nat)} {V : List Value} (h : GS w base v G V) (hp : ∀ i, i < G.length → 1 ≤ (G.getD i []).length) :
    OwnN w base v G.length (gm G) (blk V) (cap V) (gf G) := by
  have hat : ∀ i, i < G.length → V.getD i undef = orow (blk V) (cap V) (gm G) i := fun i hi => by
    obtain ⟨g, c, e, _, _⟩ := (h.rows i hi).form (by have := hp i hi; omega)
    unfold orow blk cap
    rw [e]
    rfl
  refine ⟨?_, fun k hk => ?_, fun j k hj hk hne e => ?_, fun k hk e => ?_⟩
  · have hV : V = lst (orow (blk V) (cap V) (gm G)) G.length := by
      apply List.ext_getElem?
      intro i
      by_cases hi : i < G.length
      · rw [lst_get _ _ _ hi, ← hat i hi]
        have : i < V.length := by rw [h.len]; exact hi
        simp [List.getD, this]
      · rw [List.getElem?_eq_none (by rw [h.len]; omega), List.getElem?_eq_none (by rw [lst_len]; omega)]
    rw [← hV]
    exact h.outer
  · have := h.rows k hk
    rw [hat k hk] at this
    rw [gf_lst]
    exact this
  · have h1 := hat j hj
    have h2 := hat k hk
    exact h.apart j k hj hk hne (blk V j) (by rw [h1]; rfl) (by rw [h2]; show some (blk V k) = _; rw [e])
  · exact h.other k hk (blk V k) (by rw [hat k hk]; rfl) e

theorem gi_fg (bs : List Bm) (ap : Int) : GI bs (FG bs ap) bs.length := by
  unfold FG
  split
  · exact GI.all _ (Nat.le_refl _)
  · exact ⟨by simp, fun i hi => absurd hi (by simp)⟩
theorem fg_len (bs : List Bm) (ap : Int) : (FG bs ap).length ≤ 8 ∧ ∀ i, i < (FG bs ap).length → 1 ≤ gm (FG bs ap) i ∧ gm (FG bs ap) i ≤ 8 := by
  by_cases h : fok bs ap = true
  · have ha : ab bs = true := by
      unfold fok at h
      cases e : ab bs
      · rw [e] at h; cases h
      · rfl
    have hl := (BsOk.of ha).len
    have g := gi_fg bs ap
    exact ⟨by have := g.len; omega, fun i hi => ⟨(g.row i hi).2.1, by have := (g.row i hi).2.2; show ((FG bs ap).getD i []).length ≤ 8; omega⟩⟩
  · have : FG bs ap = [] := by unfold FG; rw [if_neg h]
    rw [this]
    exact ⟨by simp, fun i hi => absurd hi (by simp)⟩
theorem mk_small (m : Nat → Nat) : ∀ n, (∀ i, i < n → m i ≤ 8) → mk 1 m n ≤ 1 + n * 8
  | 0, _ => Nat.le_refl _
  | n + 1, h => by
    have := mk_small m n (fun i hi => h i (by omega))
    have := h n (by omega)
    show mk 1 m n + m n ≤ _
    omega
/-- What a call of FarBeams does. -/
def Frs (f : FuncId) (bs : List Bm) (ap : Int) (n : Nat) (m : Nat → Nat) (g : Nat → Nat → Value) (ok : Bool) : Prop :=
  ∀ (A : Option Addr) (c B : Nat) (w : World), bs.length ≤ 9223372036854775807 → Rd w B A (bs.length * 4) (bcell bs) → B ≤ w.heap.size →
    Calls Try.prog f #[.slice A bs.length c, .int .i64 ap] w fun e w' => ∃ O d a k, e = .returned (.tuple #[.slice O n d, .bool ok]) ∧ OwnN w' w.heap.size (.slice O n d) n m a k g ∧ w.grownBy w' none
theorem frs_s (bs : List Bm) (ap : Int) : Frs 53 bs ap (FG bs ap).length (gm (FG bs ap)) (gf (FG bs ap)) (fok bs ap) := fun A c B w hm hr hB =>
  (far_spec A c B bs ap w hm hr hB).mono fun _ _ ⟨O, d, V, h1, h2, h3⟩ => ⟨O, d, blk V, cap V, h1, gs_own h2 (fun i hi => ((fg_len bs ap).2 i hi).1), h3⟩
theorem frs_i (bs : List Bm) (ap : Int) : Frs 54 bs ap (FG bs ap).length (gm (FG bs ap)) (gf (FG bs ap)) (fok bs ap) := fun A c B w hm hr hB =>
  (far_impl A c B bs ap w hm hr hB).mono fun _ _ ⟨O, d, V, h1, h2, h3⟩ => ⟨O, d, blk V, cap V, h1, gs_own h2 (fun i hi => ((fg_len bs ap).2 i hi).1), h3⟩
theorem RdN.far {w w' : World} {B n : Nat} {O : Option Addr} {m a c : Nat → Nat} {f : Nat → Nat → Value} {Z : Option Nat} (h : RdN w B O n m a c f) (hg : w.grownBy w' Z) (hB : B ≤ w.heap.size) (hz : ∀ z, Z = some z → B ≤ z) : RdN w' B O n m a c f :=
  h.below ⟨hg.os, hg.tape, hg.output, hg.size, fun k hk => hg.block k (by omega) (fun e => by have := hz k e.symm; omega)⟩
theorem OwnN.far {w w' : World} {base n : Nat} {O : Option Addr} {d : Nat} {m a c : Nat → Nat} {f : Nat → Nat → Value} {Z : Option Nat} (h : OwnN w base (.slice O n d) n m a c f) (hg : w.grownBy w' Z) (hz : ∀ z, Z = some z → z < base) : OwnN w' base (.slice O n d) n m a c f :=
  ⟨World.ownsRow.kept h.outer hg (by
      cases h6 : (Value.slice O n d).ownBlock with
      | none => exact .inl rfl
      | some b =>
        refine .inr fun e => ?_
        have hb : O.map Addr.block = some b := by rw [← own_blk O n d]; exact h6
        have := (own_base h.outer b hb).1
        have := hz b e.symm
        omega), fun k hk => World.ownsRow.kept (h.rows k hk) hg (.inr fun e => by
      have := (own_base (h.rows k hk) (a k) rfl).1
      have := hz (a k) e.symm
      omega), h.apart, h.other⟩

set_option maxHeartbeats 8000000 in
set_option maxRecDepth 100000 in
theorem law0 (A0 : Option Addr) (c0 : Nat) (z0 : List Bm) (a1 : Int) (w : World) (hm0 : z0.length ≤ 9223372036854775807) (hr0 : Rd w w.heap.size A0 (z0.length * 4) (bcell z0))
    (n : Nat) (m : Nat → Nat) (f : Nat → Nat → Value) (ok : Bool) (hn : n ≤ 8) (hm : ∀ k, k < n → m k ≤ 8) (hi : ∀ k, k < n → Ints (f k) (m k))
    (hs : Frs 53 z0 a1 n m f ok) (hp : Frs 54 z0 a1 n m f ok) :
    Calls Try.prog 13 #[.slice A0 z0.length c0, .int .i64 a1] w fun e w' => e = .returned (.bool true) ∧ Below w.heap.size w w' := by
  by_cases hl0 : z0.length ≤ 1048576
  · have hmk := mk_small m n hm
    have n65 : n ≤ 65536 := by omega
    have mkb : mk 1 m n ≤ 1048576 := by omega
    have nb : n ≤ 9223372036854775807 := by omega
    have HM := Lib.hid (show ∀ k, k < n → m k ≤ 9223372036854775807 from fun k hk => by have := hm k hk; omega)
    have HS := Lib.hid hs
    have HP := Lib.hid hp
    have HI := Lib.hid hi
    have HR := Lib.hid (fun (w' : World) (hg : w.grownBy w' none) => (hr0.kept0 hg (Nat.le_refl _)).mono hg.size)
    clear hs hp hi hr0 hm
    go_enter Try.func13, Try.ntmps13
    go_wp2_with fail
    refine (szB _ _ _ _ hl0).mono ?_
    rintro e w' ⟨rfl, rfl⟩
    go_wp2_with fail
    refine (toB _ _ _ _ _ (by omega) (HR.out _ (World.grownBy.refl _ _))).mono ?_
    rintro e w1 ⟨B1, d1, rfl, ho1, hg1⟩
    have R1 := Rd.of_lst ho1 rfl
    go_wp2_with fail
    refine (HS.out _ _ _ _ hm0 R1 (Nat.le_refl _)).mono ?_
    rintro e w2 ⟨O2, d2, a2, k2, rfl, ho2, hg2⟩
    have S2 := ho2.rd
    have G2 := hg1.trans hg2
    go_wp2_with fail
    refine (toB _ _ _ _ _ (by omega) (HR.out _ G2)).mono ?_
    rintro e w3 ⟨B3, d3, rfl, ho3, hg3⟩
    have R3 := Rd.of_lst ho3 rfl
    go_wp2_with fail
    refine (HP.out _ _ _ _ hm0 R3 (Nat.le_refl _)).mono ?_
    rintro e w4 ⟨O4, d4, a4, k4, rfl, ho4, hg4⟩
    have h24 := hg3.trans hg4
    have S24 := (S2.kept0 h24 (Nat.le_refl _)).mono h24.size
    go_wp2_with fail
    refine (eqN _ _ _ _ _ _ _ _ _ _ _ _ _ nb HM.out (Nat.le_refl _) HI.out ho4.rd S24).mono ?_
    rintro e w5 ⟨rfl, hg5⟩
    have G5 := (G2.trans h24).trans hg5
    go_wp2_with fail
    refine (toB _ _ _ _ _ (by omega) (HR.out _ G5)).mono ?_
    rintro e w6 ⟨B6, d6, rfl, ho6, hg6⟩
    have R6 := Rd.of_lst ho6 rfl
    have h36 := (hg4.trans hg5).trans hg6
    go_wp2_with fail
    refine (eqB_true _ _ _ _ _ _ _ _ (by omega) (Nat.le_refl _) ((R3.kept0 h36 (Nat.le_refl _)).mono h36.size) R6).mono ?_
    rintro e w7 ⟨rfl, hg7⟩
    have h37 := h36.trans hg7
    have h47 := (hg5.trans hg6).trans hg7
    have h27 := hg3.trans h37
    have G7 := G2.trans h27
    have X7 := own_kept0 ho3 h37
    have Q7 := ho4.kept0 h47
    have S7 := S2.kept0 h27 (Nat.le_refl _)
    have z2 := G2.size
    have z3 := hg3.size
    have z4 := hg4.size
    have z7 := h47.size
    have b3 := own_base ho3
    go_wp2_with fail
    refine (markB1 _ _ _ _ _ _ _ (by omega) X7).mono ?_
    rintro e w8 ⟨rfl, hg8⟩
    have z8 := hg8.size
    have G8 := gb_new G7 hg8 (base_of ho3 (by omega))
    have Q8 := OwnN.far Q7 hg8 (fun z hz => (b3 z hz).2)
    have S8 := RdN.far S7 hg8 (by omega) (fun z hz => (b3 z hz).1)
    have zz : w2.heap.size ≤ w8.heap.size := by omega
    clear S2 S24 S7 Q7 X7 R1 R3 R6 ho1 ho2 ho6 b3
    go_wp2_with fail
    refine (eqN _ _ _ _ _ _ _ _ _ _ _ _ _ nb HM.out (Nat.le_refl _) HI.out Q8.rd (S8.mono zz)).mono ?_
    rintro e w9 ⟨rfl, hg9⟩
    have z9 := hg9.size
    have Q9 := Q8.kept0 hg9
    have S9 := S8.kept0 hg9 zz
    have G9 := G8.trans hg9
    go_wp2_with fail
    refine (markN _ n _ _ 1 _ _ _ _ _ n65 mkb Q9).mono ?_
    rintro e w10 ⟨rfl, ho10, on10⟩
    have hrows : ∀ i, i < n → w3.heap.size ≤ a4 i := fun i hi => (own_base (ho4.rows i hi) (a4 i) rfl).1
    have B10 : Below w2.heap.size w9 w10 := on10.below (by omega) (fun i hi => by have := hrows i hi; omega)
    have S10 := S9.below B10
    have z10 := on10.size
    have ze : w2.heap.size ≤ w10.heap.size := by omega
    have M10 := ho10.rd
    have HBW := on10.below (B := w.heap.size) (by have := G9.size; omega) (fun i hi => by have := hrows i hi; omega)
    have gw := gb_below G9
    have G10 : w.grownBy w10 none := ⟨HBW.os.trans gw.os, HBW.tape.trans gw.tape, HBW.output.trans gw.output, Nat.le_trans gw.size HBW.size, fun i hi _ => (HBW.block i hi).trans (gw.block i hi)⟩
    clear HBW gw B10 hrows on10 ho10 ho3 ho4 S9 S8 Q9 Q8 G8 G9 G7 G5 G2 hg1 hg2 hg3 hg4 hg5 hg6 hg7 hg8 hg9 h24 h27 h36 h37 h47 z2 z3 z4 z7 z8 z9 z10 zz
    go_wp2_with fail
    refine (heldN _ n _ _ 1 _ _ _ _ n65 mkb M10).mono ?_
    rintro e w' ⟨rfl, rfl⟩
    go_wp2_with fail
    refine (toB _ _ _ _ _ (by omega) (HR.out _ G10)).mono ?_
    rintro e w11 ⟨B11, d11, rfl, ho11, hg11⟩
    have R11 := Rd.of_lst ho11 rfl
    go_wp2_with fail
    refine (HP.out _ _ _ _ hm0 R11 (Nat.le_refl _)).mono ?_
    rintro e w12 ⟨O12, d12, a12, k12, rfl, ho12, hg12⟩
    have h1012 := hg11.trans hg12
    go_wp2_with fail
    refine (eqN _ _ _ _ _ _ _ _ _ _ _ _ _ nb HM.out (Nat.le_refl _) HI.out ho12.rd ((S10.kept0 h1012 ze).mono (Nat.le_trans ze h1012.size))).mono ?_
    rintro e w13 ⟨rfl, hg13⟩
    have M13 := M10.kept0 (h1012.trans hg13) (Nat.le_refl _)
    have HB := Lib.hid (gb_below ((G10.trans h1012).trans hg13))
    clear S10 hg11 hg12 h1012 hg13 ho11 ho12 R11
    go_wp2_with fail
    refine (heldN _ n _ _ 1 _ _ _ _ n65 mkb M13).mono ?_
    rintro e w' ⟨rfl, rfl⟩
    go_wp2_with fail
    go_ret
    exact ⟨rfl, HB.out⟩
  · go_enter Try.func13, Try.ntmps13
    go_wp2_with fail
    refine (szB_no _ _ _ _ (by omega) hm0).mono ?_
    rintro e w' ⟨rfl, rfl⟩
    go_wp2_with fail
    go_ret
    exact ⟨rfl, Below.refl _ _⟩
theorem walk (a0 : Option Addr) (len0 cap0 : Nat) (z0 : List Bm) (a1 : Int) (w : World) (l0 : z0.length = len0) (m0 : len0 ≤ maxLen) (w0 : ∀ x ∈ z0, BWf x) (r0 : Rd w w.heap.size a0 (len0 * 4) (bcell z0)) (w1 : (Lit.int .i64 a1).wf = true) :
    Calls Try.prog 13 #[.slice a0 len0 cap0, .int .i64 a1] w fun e w' => e = .returned (.bool true) ∧ Below w.heap.size w w' := by
  subst l0
  unfold maxLen at m0
  obtain ⟨h1, h2⟩ := fg_len z0 a1
  exact law0 a0 cap0 z0 a1 w (by omega) r0 _ _ _ _ h1 (fun k hk => (h2 k hk).2) (fun k hk => gf_ints _ _) (frs_s z0 a1) (frs_i z0 a1)

end Go.Proofs.Ytkjmlpdbnnmlhaa.farLaw
