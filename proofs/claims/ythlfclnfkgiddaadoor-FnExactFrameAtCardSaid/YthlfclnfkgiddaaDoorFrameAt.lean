/- The law on FrameAt answers true at every string and every place (a tied card: the package's errors are laid as its text lays them). -/
import Derived.Test.YthlfclnfkgiddaaDoorRows
import Derived.Test.YthlfclnfkgiddaaDoorSlc
import Derived.Test.YthlfclnfkgiddaaDoorSmall
import Derived.Test.YthlfclnfkgiddaaDoorElemC
import Derived.Test.YthlfclnfkgiddaaDoorWordN
import Derived.Test.YthlfclnfkgiddaaDoorNumN
import Derived.Test.YthlfclnfkgiddaaDoorTakeN
import Derived.Test.YthlfclnfkgiddaaDoorWordS
import Derived.Test.YthlfclnfkgiddaaDoorWordI
import Derived.Test.YthlfclnfkgiddaaDoorFloats
import Derived.Test.YthlfclnfkgiddaaDoorRound
import Derived.Test.YthlfclnfkgiddaaDoorValues
import Derived.Test.YthlfclnfkgiddaaDoorConv
import Derived.Test.YthlfclnfkgiddaaDoorFWalk
import Derived.Test.YthlfclnfkgiddaaDoorBits
import Derived.Test.YthlfclnfkgiddaaDoorPhase
import Derived.Test.YthlfclnfkgiddaaDoorSine
import Derived.Test.YthlfclnfkgiddaaDoorPhasor
import Derived.Test.YthlfclnfkgiddaaDoorFinWalk
import Derived.Test.YthlfclnfkgiddaaDoorFloat2
import Derived.Test.YthlfclnfkgiddaaDoorFloat3
import Derived.Test.YthlfclnfkgiddaaDoorListC
import Derived.Test.YthlfclnfkgiddaaDoorListCC
import Derived.Test.YthlfclnfkgiddaaDoorCheckC
import Derived.Test.YthlfclnfkgiddaaDoorFrameS
import Derived.Test.YthlfclnfkgiddaaDoorFrameM
import Derived.Test.YthlfclnfkgiddaaDoorFrameL
import Derived.Test.YthlfclnfkgiddaaDoorHeadC
import Derived.Test.YthlfclnfkgiddaaDoorDiffC
import Derived.Test.YthlfclnfkgiddaaDoorDiffD
import Derived.Test.YthlfclnfkgiddaaDoorAtS
import Derived.Test.YthlfclnfkgiddaaDoorAtF
import Derived.Test.YthlfclnfkgiddaaDoorStoreI
import Derived.Test.YthlfclnfkgiddaaDoorChunkS
import Derived.Test.YthlfclnfkgiddaaDoorTakeI
import Derived.Test.YthlfclnfkgiddaaDoorFirstI
import Derived.Test.YthlfclnfkgiddaaDoorAtI
import Derived.Test.YthlfclnfkgiddaaDoorTie
import Derived.Test.YthlfclnfkgiddaaDoorCards
import Derived.WalkKit
import Derived.ProofKit
import Derived.OpenShut
import Derived.ShutString
import Derived.ChangeOld
import Derived.Below
import Derived.Lib.Hide
import Derived.BigQuiet
import Derived.Deep.QuietTactic
import Derived.WalkLawsBesides
import Derived.Outline
import Derived.ProofKit
import Derived.LaidMore
import Derived.OpenShut
import Derived.Stop.Joined
import Derived.SevenTiedAt
import Derived.Lib.LaidTab
import Derived.Stop.LaidErr
import Derived.ChangeMaps5
import Derived.ShutString
import Derived.OpenVars
import Derived.Laws.ComplexArith
namespace Go.Proofs.YthlfclnfkgiddaaDoor.frameAt
open Go.ChangeShapes Go.WideShapes Go.ChangeAt Go.RowKit
open Go.ChangeMaps (open_string shut_string)
set_option linter.unusedVariables false
open Go Go.RowKit Go.ChangeShapes Go.WideShapes Go.ChangeAt
open Go.ChangeMaps (open_string shut_string)
open Go.Proofs.YthlfclnfkgiddaaDoor.slc Go.Proofs.YthlfclnfkgiddaaDoor.small Go.Proofs.YthlfclnfkgiddaaDoor.listC Go.Proofs.YthlfclnfkgiddaaDoor.headC Go.Proofs.YthlfclnfkgiddaaDoor.numN Go.Proofs.YthlfclnfkgiddaaDoor.frameM Go.Proofs.YthlfclnfkgiddaaDoor.frameL Go.Proofs.YthlfclnfkgiddaaDoor.atF

theorem own : ownKnob Tryd.prog.godebug = none := by kernel_rfl
theorem laidOut : laidOutB Tryd.prog = true := by kernel_rfl
theorem FA_len (L : List UInt8) (k : Int) : (FA L k).2.1.length ≤ 16 := by
  unfold FA
  split
  · next h =>
    dsimp only
    rw [tk_len]
    exact (hB_yes h.1).2.2.2
  · simp
set_option maxRecDepth 100000 in
theorem walk (a0 : ByteArray) (a1 : Int) (w : World) (w0 : a0.size ≤ maxLen) (w1 : (Lit.int .i64 a1).wf = true) (he : ErrV 1 w) (he1 : ErrV 0 w) (he2 : ErrV 3 w) (he3 : ErrV 4 w) :
    Calls Tryd.prog 8 #[.string a0, .int .i64 a1] w fun e w' => e = .returned (.bool true) ∧ Below w.heap.size w w' := by
  unfold maxLen at w0
  obtain ⟨b0, b1⟩ := bounds_i64 w1
  by_cases hl : a0.size ≤ 1048576
  · have hl' : (a0.size : Int) ≤ 1048576 := by omega
    have HS := Lib.hid (fun w => fa_spec a0 a1 w hl b0 b1)
    have HI := Lib.hid (fun w h h4 => Go.Proofs.YthlfclnfkgiddaaDoor.atI.fa_impl a0 a1 w hl b0 b1 h h4)
    have hn := FA_len a0.data.toList a1
    generalize FA a0.data.toList a1 = R at *
    obtain ⟨idx, xs, ok⟩ := R
    dsimp only at hn
    have HE := Lib.hid (And.intro he he3)
    clear hl he he1 he2 he3 b0 b1 w1
    go_enter Tryd.func8, Tryd.ntmps8
    go_wp2_with fail
    refine (HS.out _).mono ?_
    rintro e v1 ⟨A1, c1, rfl, ho1, g1⟩
    dsimp only at ho1
    have hb1 := own_base ho1
    have s1 := g1.size
    have hsu : (v1.alloc (.cells #[.int .i64 (idx : Int), .slice A1 xs.length c1] 51)).heap.size = v1.heap.size + 1 := by simp
    have x1 := World.grownBy_alloc v1 (.cells #[.int .i64 (idx : Int), .slice A1 xs.length c1] 51) none
    have F1 := Fk.new v1 (.int .i64 (idx : Int)) (.slice A1 xs.length c1)
    have h1 := g1.trans x1
    have ho1 := own_kept0 ho1 x1
    go_wp2_with fail
    generalize v1.alloc (.cells #[.int .i64 (idx : Int), .slice A1 xs.length c1] 51) = u1 at *
    generalize v1.heap.size = q1 at *
    refine (HI.out _ (HE.out.1.kept h1) (HE.out.2.kept h1)).mono ?_
    rintro e v2 ⟨A2, c2, rfl, ho2, g2⟩
    dsimp only at ho2
    have hb2 := own_base ho2
    have hu2 := g2.size
    have x2 := World.grownBy_alloc v2 (.cells #[.int .i64 (idx : Int), .slice A2 xs.length c2] 51) none
    have F2 := Fk.new v2 (.int .i64 (idx : Int)) (.slice A2 xs.length c2)
    have h2 := g2.trans x2
    have ho2 := own_kept0 ho2 x2
    have ho1 := own_kept0 ho1 h2
    have F1 := F1.keep h2 (by simp)
    obtain ⟨f0, f1, _, _⟩ := F1.cells
    obtain ⟨f2, f3, _, _⟩ := F2.cells
    have s2 := h2.size
    have hsq : (v2.alloc (.cells #[.int .i64 (idx : Int), .slice A2 xs.length c2] 51)).heap.size = v2.heap.size + 1 := by simp
    go_wp2_with fail
    generalize v2.alloc (.cells #[.int .i64 (idx : Int), .slice A2 xs.length c2] 51) = u2 at *
    generalize v2.heap.size = q2 at *
    have G2 := h1.trans h2
    refine (eqFr (idx : Int) A2 A1 c2 c1 xs u2 (by omega) (Rd.of_lst ho2 (Nat.mul_one _).symm) (Rd.of_lst ho1 (Nat.mul_one _).symm)).mono ?_
    rintro e v3 ⟨rfl, g3⟩
    have F2 := F2.keep g3 (by simp)
    have F1 := F1.keep g3 (by simp)
    obtain ⟨f2, f3, _, _⟩ := F2.cells
    have ho2 := own_kept0 ho2 g3
    have ho1 := own_kept0 ho1 g3
    have G3 := G2.trans g3
    go_wp2_with fail
    refine (markFr (idx : Int) A2 c2 u1.heap.size xs v3 (by omega) ho2 (by have := g3.size; omega)).mono ?_
    rintro e v4 ⟨rfl, ho2, g4⟩
    have F2 := F2.keep g4 (fun e => by have := (hb2 _ e).2; omega)
    have F1 := F1.keep g4 (fun e => by have := (hb2 _ e).1; omega)
    have ho1 := World.ownsRow.kept ho1 g4 (by
      rw [own_blk]
      cases A1 with
      | none => exact .inl rfl
      | some a => exact .inr (fun e => by have h5 := (hb1 _ rfl).2; have h6 := (hb2 _ e.symm).1; omega))
    have G4 := gb_new G3 g4 (fun b e => by have := (hb2 b e).1; omega)
    have R4 := Rd.of_lst ho2 (Nat.mul_one _).symm
    obtain ⟨f2, f3, _, _⟩ := F2.cells
    go_wp2_with fail
    refine (heldFr (idx : Int) A2 c2 v4.heap.size xs.length v4 (by omega) R4 (Nat.le_refl _)).mono ?_
    rintro e v5 ⟨rfl, g5⟩
    have F2 := F2.keep g5 (by simp)
    have F1 := F1.keep g5 (by simp)
    have ho1 := own_kept0 ho1 g5
    have ho2 := own_kept0 ho2 g5
    have G5 := G4.trans g5
    obtain ⟨f0, f1, _, _⟩ := F1.cells
    obtain ⟨f2, f3, _, _⟩ := F2.cells
    have k0 : ¬ (xs.length : Int) + 1 < 0 := by omega
    go_wp2_with fail
    refine (HI.out _ (HE.out.1.kept G5) (HE.out.2.kept G5)).mono ?_
    rintro e v6 ⟨A6, c6, rfl, ho6, g6⟩
    dsimp only at ho6
    have x6 := World.grownBy_alloc v6 (.cells #[.int .i64 (idx : Int), .slice A6 xs.length c6] 51) none
    have F6 := Fk.new v6 (.int .i64 (idx : Int)) (.slice A6 xs.length c6)
    have h6 := g6.trans x6
    have ho6 := own_kept0 ho6 x6
    have F1 := F1.keep h6 (by simp)
    have F2 := F2.keep h6 (by simp)
    have ho1 := own_kept0 ho1 h6
    have ho2 := own_kept0 ho2 h6
    have G6 := G5.trans h6
    obtain ⟨f0, f1, _, _⟩ := F1.cells
    obtain ⟨f4, f5, _, _⟩ := F6.cells
    go_wp2_with fail
    generalize v6.alloc (.cells #[.int .i64 (idx : Int), .slice A6 xs.length c6] 51) = u6 at *
    generalize v6.heap.size = q6 at *
    refine (eqFr (idx : Int) A6 A1 c6 c1 xs u6 (by omega) (Rd.of_lst ho6 (Nat.mul_one _).symm) (Rd.of_lst ho1 (Nat.mul_one _).symm)).mono ?_
    rintro e v7 ⟨rfl, g7⟩
    have F2 := F2.keep g7 (by simp)
    have ho2 := own_kept0 ho2 g7
    have G7 := G6.trans g7
    obtain ⟨f2, f3, _, _⟩ := F2.cells
    go_wp2_with fail
    refine (heldFr (idx : Int) A2 c2 v7.heap.size xs.length v7 (by omega) (Rd.of_lst ho2 (Nat.mul_one _).symm) (Nat.le_refl _)).mono ?_
    rintro e v8 ⟨rfl, g8⟩
    have HG := Lib.hid (G7.trans g8)
    go_wp2_with fail
    go_ret
    exact ⟨rfl, gb_below HG.out⟩
  · have hl' : (1048576 : Int) < a0.size := by omega
    go_enter Tryd.func8, Tryd.ntmps8
    go_wp2_with fail
    go_ret
    exact ⟨rfl, Below.refl _ _⟩

theorem star : "*" ++ "errors.errorString" = "*errors.errorString" := by decide
theorem rowErr : ∀ u, Tryd.prog.typeName? 3 u = some "*errors.errorString" → u = 229 := fun u h => typeName_ptr_named (nm := "errors.errorString") (by rw [star]; kernel_rfl) (by kernel_rfl) (by decide) u (by rw [star]; exact h)
theorem trodVars_cons {H : Type} {enc : TypeId × Value → H} {P : Program} {w : World} {spare : Nat → Bool} {n : String} {ns : List String} {gs : List (DataW H)} {ps : List MemPlace} (h : DataW.TrodVars enc P w spare (n :: ns) gs ps) : ∃ d ds q, gs = d :: ds ∧ DataW.TrodVars enc P w spare ns ds q := by
  cases gs with
  | nil => exact h.elim
  | cons d ds =>
    obtain ⟨_, _, _, _, _, q, _, _, _, _, hs, _⟩ := h
    exact ⟨d, ds, q, rfl, hs⟩
theorem err_of {P : Program} {w : World} {n : String} {g : Nat} {tp : TypeId} {p : Value} (hg : P.globalNamed n = some g) (hv : w.var? P n = some #[.iface tp p]) : ErrV g w := ⟨tp, p, World.var?_cell hg hv 0⟩
theorem of_laid {W : World} (h : laidMetH Tryd.prog Rows.fnExactFrameAtRow.laid W) : ErrV 1 W ∧ ErrV 0 W ∧ ErrV 3 W ∧ ErrV 4 W := by
  rw [MakeChecks.laidMetH_plain _ _ _ (by kernel_rfl)] at h
  obtain ⟨a0, s0, k0, -, -, -⟩ := laid_sentinel h (g := 1) (by kernel_rfl) (ti := 85) (by kernel_rfl) Tryd.underlying85 rowErr Tryd.underlying229 Tryd.underlying231 rfl rfl Tryd.underlying9 (by kernel_rfl) (by kernel_rfl)
  obtain ⟨a1, s1, k1, -, -, -⟩ := laid_sentinel (laidMet.tail h) (g := 0) (by kernel_rfl) (ti := 85) (by kernel_rfl) Tryd.underlying85 rowErr Tryd.underlying229 Tryd.underlying231 rfl rfl Tryd.underlying9 (by kernel_rfl) (by kernel_rfl)
  obtain ⟨a2, s2, k2, -, -, -⟩ := laid_sentinel (laidMet.tail (laidMet.tail h)) (g := 3) (by kernel_rfl) (ti := 85) (by kernel_rfl) Tryd.underlying85 rowErr Tryd.underlying229 Tryd.underlying231 rfl rfl Tryd.underlying9 (by kernel_rfl) (by kernel_rfl)
  obtain ⟨a3, s3, k3, -, -, -⟩ := laid_sentinel (laidMet.tail (laidMet.tail (laidMet.tail h))) (g := 4) (by kernel_rfl) (ti := 85) (by kernel_rfl) Tryd.underlying85 rowErr Tryd.underlying229 Tryd.underlying231 rfl rfl Tryd.underlying9 (by kernel_rfl) (by kernel_rfl)
  exact ⟨err_of (by kernel_rfl) k0, err_of (by kernel_rfl) k1, err_of (by kernel_rfl) k2, err_of (by kernel_rfl) k3⟩
set_option maxRecDepth 100000 in
theorem door_met (os : Os) (args : Array Value) : laidMetH Tryd.prog Rows.fnExactFrameAtRow.laid ((World.doorLaid Tryd.prog 400 os).forCall (fun _ _ => 0) ⟨#[], args, []⟩).memory :=
  laidMetH_of_parts3 (fuel := 8) (laidMet_of_run' 8 (by kernel_rfl) (by kernel_rfl)) (by kernel_rfl) (by kernel_rfl)
set_option maxRecDepth 100000 in
theorem lifted (os : Os) (started : os.Started) (H : Type) (enc : TypeId × Value → H) :
    ReturnsInHanded {} Tryd.checked os 8 .any (fun w args => (Rows.fnExactFrameAtSpec.pre enc Tryd.prog Tryd.f8 [] false w args ∧ laidMetH Tryd.prog Rows.fnExactFrameAtRow.laid w) ∧ sizedMet enc Tryd.prog Tryd.f8 (OpenSpec.ofChange Rows.fnExactFrameAtSpec) false w args) (Rows.fnExactFrameAtSpec.post enc Tryd.prog Tryd.f8 false true false false) := by
  refine returnsInHanded_of_change_and (C := Tryd.checked) (X := fun w _ => laidMetH Tryd.prog Rows.fnExactFrameAtRow.laid w) (fun _ _ _ hh h => h.of_heap hh) own started (by kernel_rfl) Tryd.func8
    (ChangeSpec.witness_shaped (enc := enc) (C := Tryd.checked) (os := os) (X := fun w _ => laidMetH Tryd.prog Rows.fnExactFrameAtRow.laid w) false (World.doorLaid Tryd.prog 400 os) #[.string ByteArray.empty, .int .i64 0] 8 rfl (World.shaped_of_RefB (by kernel_rfl) (by kernel_rfl)) (by kernel_rfl) (by kernel_rfl) (by kernel_rfl) (door_met os _)) ?_
  intro W base args ds gs before hval0 hW _ _ hL _
  have hval : ∀ (j : Nat) t v, Tryd.f8.params[j]? = some t → args[j]? = some v → Value.okWide Tryd.prog W .any base t v := hval0
  have hT := of_laid hL
  have hW' := hW
  obtain ⟨p, q, hA0, hV, rfl, hfz, hnd⟩ := hW
  have hA : DataW.TrodAll enc Tryd.prog W 0 (fun _ => true) true Tryd.f8.params.toList args.toList ds p := hA0
  rw [Tryd.params8] at hA hval
  obtain ⟨v0, vs0, d0, ds0, p0, q0, hargs, rfl, rfl, h0, r0⟩ := trodAll_cons hA
  obtain ⟨v1, vs1, d1, ds1, p1, q1, rfl, rfl, rfl, h1, r1⟩ := trodAll_cons r0
  obtain ⟨rfl, rfl, rfl⟩ := trodAll_nil r1
  obtain rfl : args = #[v0, v1] := by cases args; simp_all
  obtain ⟨g0, gs0, gq0, rfl, hV0⟩ := trodVars_cons hV
  obtain ⟨g1, gs1, gq1, rfl, hV1⟩ := trodVars_cons hV0
  obtain ⟨g2, gs2, gq2, rfl, hV2⟩ := trodVars_cons hV1
  obtain ⟨g3, gs3, gq3, rfl, hV3⟩ := trodVars_cons hV2
  obtain ⟨rfl, rfl⟩ := trodVars_none hV3
  obtain ⟨a0, rfl, rfl, rfl, w0⟩ := open_string Tryd.underlying9 (hval 0 9 v0 rfl rfl) h0
  obtain ⟨a1, rfl, rfl, rfl, w1⟩ := open_int Tryd.underlying2 (hval 1 2 v1 rfl rfl) h1
  clear hA0 hval0
  refine (walk a0 a1 W w0 w1 hT.1 hT.2.1 hT.2.2.1 hT.2.2.2).mono fun e W' ⟨he, bel⟩ => ?_
  subst he
  exact ⟨_, rfl, _, _, _, [], _, _, hW', trodAll_mk1 (shut_bool Tryd.underlying4 _), (trodAll_cons_mk (shut_string Tryd.underlying9 w0) (trodAll_cons_mk (shut_int Tryd.underlying2 w1) trodAll_mk0)), bel.trodVars laidOut (by kernel_rfl) hV, bel.frame _, fun h => by cases h⟩

theorem over : Rows.fnExactFrameAtRow.holds Tryd.pinned (OpenSpec.ofChange Rows.fnExactFrameAtSpec) :=
  OpenClaim.holds_of_wide 8 Tryd.f8 rfl rfl rfl rfl rfl rfl rfl ⟨rfl, rfl, rfl, rfl, rfl⟩ rfl rfl rfl rfl rfl (by kernel_rfl) Tryd.func8 (by kernel_rfl)
    (of_decide_eq_true (by kernel_rfl)) (by unfold Func.isWrapper; first | (rw [if_pos (by decide +kernel)]; kernel_rfl) | (rw [if_neg (by decide +kernel)]; exact ⟨rfl, rfl⟩))
    (fun os started H enc _ => lifted os started H enc)

theorem proved : Rows.FnExactFrameAtCardSaid :=
  Claim7.holds_tied_plain_at .later [] _ true _ true
    over (fun _ h => by cases h) (by kernel_rfl) (fun _ h => by cases h) fnExactFrameAt_row_tie rfl ⟨rfl, rfl⟩ (by kernel_rfl) rfl
    (fun f fn hf hfn => by
      obtain rfl : f = 8 := Option.some.inj ((show Tryd.prog.funcNamed "loop.example/g01181/laws.FnExactFrameAt" = some 8 by kernel_rfl).symm.trans hf) |>.symm
      obtain rfl : fn = Tryd.f8 := (Option.some.inj (Tryd.func8.symm.trans hfn)).symm
      exact ⟨by kernel_rfl, fun j t ht => by
        rw [Tryd.params8] at ht
        have hm : t ∈ [9, 2] := by simpa using Array.mem_of_getElem? ht
        have hall : ([9, 2].all fun u => !Tryd.prog.wantsStandIn u) = true := by kernel_rfl
        exact (show Tryd.prog.wantsStandIn t = false by simpa using List.all_eq_true.1 hall t hm)⟩)
    (by kernel_rfl)
#print axioms proved

end Go.Proofs.YthlfclnfkgiddaaDoor.frameAt
