/- The law on ReadList answers true at every string (a tied card: the library's tables and errors are laid as its text lays them). -/
import Derived.Test.YthlfclnfkgiddaaDoorRows
import Derived.Test.YthlfclnfkgiddaaDoorSlc
import Derived.Test.YthlfclnfkgiddaaDoorSmall
import Derived.Test.YthlfclnfkgiddaaDoorListI
import Derived.Test.YthlfclnfkgiddaaDoorWordN
import Derived.Test.YthlfclnfkgiddaaDoorNumN
import Derived.Test.YthlfclnfkgiddaaDoorWordS
import Derived.Test.YthlfclnfkgiddaaDoorDecNum
import Derived.Test.YthlfclnfkgiddaaDoorDec
import Derived.Test.YthlfclnfkgiddaaDoorFmt
import Derived.Test.YthlfclnfkgiddaaDoorDecI
import Derived.Test.YthlfclnfkgiddaaDoorTextNum
import Derived.Test.YthlfclnfkgiddaaDoorItemC
import Derived.Test.YthlfclnfkgiddaaDoorReadNum
import Derived.Test.YthlfclnfkgiddaaDoorParseLaid
import Derived.Test.YthlfclnfkgiddaaDoorRead
import Derived.Test.YthlfclnfkgiddaaDoorCutN
import Derived.Test.YthlfclnfkgiddaaDoorCutT
import Derived.Test.YthlfclnfkgiddaaDoorSplitLaid
import Derived.Test.YthlfclnfkgiddaaDoorReadI
import Derived.Test.YthlfclnfkgiddaaDoorReadM
import Derived.Test.YthlfclnfkgiddaaDoorWrapS
import Derived.Test.YthlfclnfkgiddaaDoorTie
import Derived.Test.YthlfclnfkgiddaaDoorCards
import Derived.WalkKit
import Derived.ProofKit
import Derived.OpenShut
import Derived.ShutString
import Derived.ChangeOld
import Derived.Below
import Derived.Lib.Hide
import Derived.BigQuiet
import Derived.Deep.QuietTactic
import Derived.WalkLawsBesides
import Derived.Outline
import Derived.ProofKit
import Derived.Lay
import Derived.LaidMore
import Derived.OpenShut
import Derived.Stop.Joined
import Derived.SevenTiedAt
import Derived.Lib.LaidTab
import Derived.Stop.LaidErr
import Derived.ChangeMaps5
import Derived.ShutString
namespace Go.Proofs.YthlfclnfkgiddaaDoor.readList
open Go.ChangeShapes Go.WideShapes Go.ChangeAt Go.RowKit
open Go.ChangeMaps (open_string shut_string)
set_option linter.unusedVariables false
open Go Go.RowKit Go.ChangeShapes Go.WideShapes Go.ChangeAt
open Go.ChangeMaps (open_string shut_string)
open Go.Proofs.YthlfclnfkgiddaaDoor.slc Go.Proofs.YthlfclnfkgiddaaDoor.small Go.Proofs.YthlfclnfkgiddaaDoor.listI Go.Proofs.YthlfclnfkgiddaaDoor.decI Go.Proofs.YthlfclnfkgiddaaDoor.readNum Go.Proofs.YthlfclnfkgiddaaDoor.read Go.Proofs.YthlfclnfkgiddaaDoor.cutN Go.Proofs.YthlfclnfkgiddaaDoor.readI Go.Proofs.YthlfclnfkgiddaaDoor.readM Go.Proofs.YthlfclnfkgiddaaDoor.wrapS

theorem own : ownKnob Tryd.prog.godebug = none := by kernel_rfl
theorem laidOut : laidOutB Tryd.prog = true := by kernel_rfl
theorem RL_len (L : List UInt8) : (RL L).1.length ≤ 64 := by
  unfold RL
  split
  · simp
  · split
    · simp
    · split
      · dsimp only
        rw [rv_len, cw_len]
        omega
      · simp
theorem specL (s : ByteArray) (w : World) (hs : s.size ≤ 1048576) : Calls Tryd.prog 29 #[.string s] w fun e w' => RdP w (RL s.data.toList) e w' := by
  have HM := Lib.hid (fun w => read_m s w hs)
  generalize RL s.data.toList = R at *
  go_enter Tryd.func29, Tryd.ntmps29
  go_wp2_with fail
  refine (HM.out _).mono ?_
  rintro e w1 ⟨A, c, rfl, ho, hg⟩
  have HO := Lib.hid (And.intro ho hg)
  clear ho hg
  go_wp2_with fail
  go_ret2
  exact ⟨A, c, rfl, HO.out.1, HO.out.2⟩
set_option maxHeartbeats 1000000 in
set_option maxRecDepth 100000 in
theorem walk (a0 : ByteArray) (w : World) (w0 : a0.size ≤ maxLen) (ht : TabW w) (he : ErrW w) (hm : MaxV w) :
    Calls Tryd.prog 5 #[.string a0] w fun e w' => e = .returned (.bool true) ∧ Below w.heap.size w w' := by
  unfold maxLen at w0
  by_cases hl : a0.size ≤ 1048576
  · have hl' : (a0.size : Int) ≤ 1048576 := by omega
    have HS := Lib.hid (fun w => specL a0 w hl)
    have HI := Lib.hid (fun w ht he hm => read_i a0 w hl ht he hm)
    have hn := RL_len a0.data.toList
    generalize RL a0.data.toList = R at *
    obtain ⟨xs, ok⟩ := R
    dsimp only at hn
    have hp := cl_ints xs xs.length
    have HE := Lib.hid (And.intro ht (And.intro he hm))
    clear hl ht he hm w0
    go_enter Tryd.func5, Tryd.ntmps5
    go_wp2_with fail
    refine (HS.out _).mono ?_
    rintro e w1 ⟨A1, c1, rfl, ho1, g1⟩
    dsimp only at ho1
    go_wp2_with fail
    refine (HI.out _ (HE.out.1.kept g1) (HE.out.2.1.kept g1) (HE.out.2.2.kept g1)).mono ?_
    rintro e w2 ⟨A2, c2, rfl, ho2, g2⟩
    dsimp only at ho2
    have hb1 := own_base ho1
    have hb2 := own_base ho2
    have ho1 := own_kept0 ho1 g2
    have G2 := g1.trans g2
    have s1 := g1.size
    go_wp2_with fail
    refine (eqI_true A2 A1 xs.length c2 c1 w2.heap.size (cl xs) w2 (by omega) hp (Rd.of_lst ho2 (Nat.mul_one _).symm) (Rd.of_lst ho1 (Nat.mul_one _).symm)).mono ?_
    rintro e w3 ⟨rfl, g3⟩
    have ho1 := own_kept0 ho1 g3
    have ho2 := own_kept0 ho2 g3
    have G3 := G2.trans g3
    go_wp2_with fail
    refine (markI1 A2 xs.length c2 w1.heap.size 2 (cl xs) w3 (by omega) ho2).mono ?_
    rintro e w4 ⟨rfl, ho2, g4⟩
    have ho1 := World.ownsRow.kept ho1 g4 (by
      rw [own_blk]
      cases A1 with
      | none => exact .inl rfl
      | some a => exact .inr (fun e => by have h5 := (hb1 _ rfl).2; have h6 := (hb2 _ e.symm).1; omega))
    have G4 := gb_new G3 g4 (fun b e => by have := (hb2 b e).1; omega)
    go_wp2_with fail
    refine (heldI1 A2 xs.length c2 w4.heap.size w4 (by omega) (Rd.of_lst ho2 (Nat.mul_one _).symm)).mono ?_
    rintro e w' ⟨rfl, rfl⟩
    have k0 : ¬ (xs.length : Int) + 1 < 0 := by omega
    go_wp2_with fail
    refine (HI.out _ (HE.out.1.kept G4) (HE.out.2.1.kept G4) (HE.out.2.2.kept G4)).mono ?_
    rintro e w6 ⟨A6, c6, rfl, ho6, g6⟩
    dsimp only at ho6
    have ho1 := own_kept0 ho1 g6
    have ho2 := own_kept0 ho2 g6
    have G6 := G4.trans g6
    go_wp2_with fail
    refine (eqI_true A6 A1 xs.length c6 c1 w6.heap.size (cl xs) w6 (by omega) hp (Rd.of_lst ho6 (Nat.mul_one _).symm) (Rd.of_lst ho1 (Nat.mul_one _).symm)).mono ?_
    rintro e w7 ⟨rfl, g7⟩
    have ho2 := own_kept0 ho2 g7
    have HG := Lib.hid (G6.trans g7)
    go_wp2_with fail
    refine (heldI1 A2 xs.length c2 w7.heap.size w7 (by omega) (Rd.of_lst ho2 (Nat.mul_one _).symm)).mono ?_
    rintro e w' ⟨rfl, rfl⟩
    go_wp2_with fail
    go_ret
    exact ⟨rfl, gb_below HG.out⟩
  · have hl' : (1048576 : Int) < a0.size := by omega
    go_enter Tryd.func5, Tryd.ntmps5
    go_wp2_with fail
    go_ret
    exact ⟨rfl, Below.refl _ _⟩

theorem gTab : Tryd.prog.globalNamed "internal/strconv.uint64pow10" = some 9 := by kernel_rfl
theorem tab_of_laid {W : World} {rest : List (String × DataW Unit)} (h : laidMet Tryd.prog (("math/bits.deBruijn32tab", Rows.laid_math_bits_deBruijn32tab) :: ("math/bits.deBruijn64tab", Rows.laid_math_bits_deBruijn64tab) :: ("internal/strconv.uint64pow10", Rows.laid_internal_strconv_uint64pow10) :: rest) W) : TabW W :=
  Lib.tabIs_of_head (rest := rest) gTab (by kernel_rfl) Tryd.underlying225 Tryd.underlying125 (by kernel_rfl) (by kernel_rfl)
    (show laidMet Tryd.prog (("internal/strconv.uint64pow10", Lib.tabData .u64 Lib.pow10Tab) :: rest) W from laidMet.tail (laidMet.tail h))

theorem star : "*" ++ "errors.errorString" = "*errors.errorString" := by decide
theorem rowErr : ∀ u, Tryd.prog.typeName? 3 u = some "*errors.errorString" → u = 229 := fun u h => typeName_ptr_named (nm := "errors.errorString") (by rw [star]; kernel_rfl) (by kernel_rfl) (by decide) u (by rw [star]; exact h)
theorem errs_of_laid {W : World} {rest : List (String × DataW Unit)} (h : laidMet Tryd.prog (("strconv.ErrRange", Rows.laid_strconv_ErrRange) :: ("strconv.ErrSyntax", Rows.laid_strconv_ErrSyntax) :: rest) W) : ErrW W := by
  obtain ⟨a, s, h1, -, -, -⟩ := laid_sentinel h (g := 8) (by kernel_rfl) (ti := 85) (by kernel_rfl) Tryd.underlying85 rowErr Tryd.underlying229 Tryd.underlying231 rfl rfl Tryd.underlying9 (by kernel_rfl) (by kernel_rfl)
  obtain ⟨a2, s2, h2, -, -, -⟩ := laid_sentinel (laidMet.tail h) (g := 7) (by kernel_rfl) (ti := 85) (by kernel_rfl) Tryd.underlying85 rowErr Tryd.underlying229 Tryd.underlying231 rfl rfl Tryd.underlying9 (by kernel_rfl) (by kernel_rfl)
  exact ⟨⟨_, _, h2⟩, ⟨_, _, h1⟩⟩
theorem of_laid {W : World} (h : laidMetH Tryd.prog Rows.fnExactReadListRow.laid W) : TabW W ∧ ErrW W := by
  rw [MakeChecks.laidMetH_plain _ _ _ (by kernel_rfl)] at h
  exact ⟨tab_of_laid h, errs_of_laid (laidMet.tail (laidMet.tail (laidMet.tail (laidMet.tail h))))⟩
set_option maxRecDepth 100000 in
theorem door_met (os : Os) (args : Array Value) : laidMetH Tryd.prog Rows.fnExactReadListRow.laid ((World.laidAll Tryd.prog os Rows.fnExactReadListRow.laid).forCall (fun _ _ => 0) ⟨#[], args, []⟩).memory := by
  rw [MakeChecks.laidMetH_plain _ _ _ (by kernel_rfl)]
  exact laidMet_laidAll _ (by kernel_rfl) (by kernel_rfl)
set_option maxRecDepth 100000 in
theorem lifted (os : Os) (started : os.Started) (H : Type) (enc : TypeId × Value → H) :
    ReturnsInHanded {} Tryd.checked os 5 .any (fun w args => (Rows.fnExactReadListSpec.pre enc Tryd.prog Tryd.f5 [] false w args ∧ laidMetH Tryd.prog Rows.fnExactReadListRow.laid w) ∧ sizedMet enc Tryd.prog Tryd.f5 (OpenSpec.ofChange Rows.fnExactReadListSpec) false w args) (Rows.fnExactReadListSpec.post enc Tryd.prog Tryd.f5 false true false false) := by
  refine laid_shaped (C := Tryd.checked) (L := fun w => laidMetH Tryd.prog Rows.fnExactReadListRow.laid w) (fun _ _ hh h => h.of_heap hh) own started (by kernel_rfl) Tryd.func5
    (ChangeSpec.witness_shaped (enc := enc) (C := Tryd.checked) (os := os) (X := fun w _ => laidMetH Tryd.prog Rows.fnExactReadListRow.laid w) false (World.laidAll Tryd.prog os Rows.fnExactReadListRow.laid) #[.string ByteArray.empty] 8 (World.laidAll_os _ _ _) (World.shaped_of_ZipB (by kernel_rfl) (by kernel_rfl)) (by kernel_rfl) (by kernel_rfl) (by kernel_rfl) (door_met os _)) ?_
  intro W hsh hL base args ds gs before hval0 hW
  have hval : ∀ (j : Nat) t v, Tryd.f5.params[j]? = some t → args[j]? = some v → Value.okWide Tryd.prog W .any base t v := hval0
  have hT := of_laid hL
  have hW' := hW
  obtain ⟨p, q, hA0, hV, rfl, hfz, hnd⟩ := hW
  have hA : DataW.TrodAll enc Tryd.prog W 0 (fun _ => true) true Tryd.f5.params.toList args.toList ds p := hA0
  rw [Tryd.params5] at hA hval
  obtain ⟨v0, vs0, d0, ds0, p0, q0, hargs, rfl, rfl, h0, r0⟩ := trodAll_cons hA
  obtain ⟨rfl, rfl, rfl⟩ := trodAll_nil r0
  obtain rfl : args = #[v0] := by cases args; simp_all
  obtain ⟨rfl, rfl⟩ := trodVars_none hV
  obtain ⟨a0, rfl, rfl, rfl, w0⟩ := open_string Tryd.underlying9 (hval 0 9 v0 rfl rfl) h0
  clear hA0 hval0
  refine (walk a0 W w0 hT.1 hT.2 (maxlen_of hsh)).mono fun e W' ⟨he, bel⟩ => ?_
  subst he
  exact ⟨_, rfl, _, _, _, [], _, [], hW', trodAll_mk1 (shut_bool Tryd.underlying4 _), (trodAll_cons_mk (shut_string Tryd.underlying9 w0) trodAll_mk0), rfl, bel.frame _, fun h => by cases h⟩

theorem over : Rows.fnExactReadListRow.holds Tryd.pinned (OpenSpec.ofChange Rows.fnExactReadListSpec) :=
  OpenClaim.holds_of_wide 5 Tryd.f5 rfl rfl rfl rfl rfl rfl rfl ⟨rfl, rfl, rfl, rfl, rfl⟩ rfl rfl rfl rfl rfl (by kernel_rfl) Tryd.func5 (by kernel_rfl)
    (of_decide_eq_true (by kernel_rfl)) (by unfold Func.isWrapper; first | (rw [if_pos (by decide +kernel)]; kernel_rfl) | (rw [if_neg (by decide +kernel)]; exact ⟨rfl, rfl⟩))
    (fun os started H enc _ => lifted os started H enc)

theorem proved : Rows.FnExactReadListCardSaid :=
  Claim7.holds_tied_plain_at .later [] _ true _ true
    over (fun _ h => by cases h) (by kernel_rfl) (fun _ h => by cases h) fnExactReadList_row_tie rfl ⟨rfl, rfl⟩ (by kernel_rfl) rfl
    (fun f fn hf hfn => by
      obtain rfl : f = 5 := Option.some.inj ((show Tryd.prog.funcNamed "loop.example/g01181/laws.FnExactReadList" = some 5 by kernel_rfl).symm.trans hf) |>.symm
      obtain rfl : fn = Tryd.f5 := (Option.some.inj (Tryd.func5.symm.trans hfn)).symm
      exact ⟨by kernel_rfl, fun j t ht => by
        rw [Tryd.params5] at ht
        have hm : t ∈ [9] := by simpa using Array.mem_of_getElem? ht
        have hall : ([9].all fun u => !Tryd.prog.wantsStandIn u) = true := by kernel_rfl
        exact (show Tryd.prog.wantsStandIn t = false by simpa using List.all_eq_true.1 hall t hm)⟩)
    (by kernel_rfl)
#print axioms proved

end Go.Proofs.YthlfclnfkgiddaaDoor.readList
