/- The law on JournalOf answers true at every list of strings (a tied card: the library's tables are laid as its text lays them). -/
import Derived.Test.YthlfclnfkgiddaaDoorRows
import Derived.Test.YthlfclnfkgiddaaDoorSlc
import Derived.Test.YthlfclnfkgiddaaDoorSmall
import Derived.Test.YthlfclnfkgiddaaDoorWordN
import Derived.Test.YthlfclnfkgiddaaDoorNumN
import Derived.Test.YthlfclnfkgiddaaDoorWordS
import Derived.Test.YthlfclnfkgiddaaDoorCheckC
import Derived.Test.YthlfclnfkgiddaaDoorDecNum
import Derived.Test.YthlfclnfkgiddaaDoorDec
import Derived.Test.YthlfclnfkgiddaaDoorFmt
import Derived.Test.YthlfclnfkgiddaaDoorDecI
import Derived.Test.YthlfclnfkgiddaaDoorTextNum
import Derived.Test.YthlfclnfkgiddaaDoorReadNum
import Derived.Test.YthlfclnfkgiddaaDoorCutN
import Derived.Test.YthlfclnfkgiddaaDoorCutT
import Derived.Test.YthlfclnfkgiddaaDoorJouN
import Derived.Test.YthlfclnfkgiddaaDoorStrL
import Derived.Test.YthlfclnfkgiddaaDoorJouM
import Derived.Test.YthlfclnfkgiddaaDoorJouS
import Derived.Test.YthlfclnfkgiddaaDoorBuildLaid
import Derived.Test.YthlfclnfkgiddaaDoorContLaid
import Derived.Test.YthlfclnfkgiddaaDoorJouI
import Derived.Test.YthlfclnfkgiddaaDoorJouP
import Derived.Test.YthlfclnfkgiddaaDoorOpenT
import Derived.Test.YthlfclnfkgiddaaDoorTie
import Derived.Test.YthlfclnfkgiddaaDoorCards
import Derived.WalkKit
import Derived.ProofKit
import Derived.OpenShut
import Derived.ShutString
import Derived.ChangeOld
import Derived.Below
import Derived.Lib.Hide
import Derived.BigQuiet
import Derived.Deep.QuietTactic
import Derived.WalkLawsBesides
import Derived.Outline
import Derived.ProofKit
import Derived.LaidMore
import Derived.OpenShut
import Derived.Stop.Joined
import Derived.SevenTiedAt
import Derived.Lib.LaidTab
import Derived.Lib.AppendIntMem
import Derived.Stop.LaidErr
import Derived.ChangeMaps5
import Derived.ShutString
import Derived.Lib.Strings
namespace Go.Proofs.YthlfclnfkgiddaaDoor.journalOf
open Go.ChangeShapes Go.WideShapes Go.ChangeAt Go.RowKit
open Go.ChangeMaps (open_string shut_string)
set_option linter.unusedVariables false
open Go Go.RowKit Go.ChangeShapes Go.WideShapes Go.ChangeAt
open Go.Proofs.YthlfclnfkgiddaaDoor.slc Go.Proofs.YthlfclnfkgiddaaDoor.small Go.Proofs.YthlfclnfkgiddaaDoor.wordN Go.Proofs.YthlfclnfkgiddaaDoor.decI Go.Proofs.YthlfclnfkgiddaaDoor.jouN Go.Proofs.YthlfclnfkgiddaaDoor.strL Go.Proofs.YthlfclnfkgiddaaDoor.jouS Go.Proofs.YthlfclnfkgiddaaDoor.jouP Go.Proofs.YthlfclnfkgiddaaDoor.openT

theorem own : ownKnob Tryd.prog.godebug = none := by kernel_rfl
theorem laidOut : laidOutB Tryd.prog = true := by kernel_rfl
set_option maxHeartbeats 1000000 in
set_option maxRecDepth 100000 in
theorem walk (a0 : Option Addr) (len0 cap0 : Nat) (z0 : List (List UInt8)) (w : World) (l0 : z0.length = len0) (m0 : len0 ≤ maxLen) (w0 : ∀ l ∈ z0, l.length ≤ maxLen) (r0 : Rd w w.heap.size a0 len0 (stf z0)) (ht : TabW w) :
    Calls Tryd.prog 9 #[.slice a0 len0 cap0] w fun e w' => e = .returned (.bool true) ∧ Below w.heap.size w w' := by
  unfold maxLen at m0 w0
  subst l0
  have HZ := Lib.hid (szT a0 cap0 w.heap.size z0 w (by omega) r0 (fun l hl => by have := w0 l hl; omega))
  have HR := Lib.hid (fun (w' : World) (g : w.grownBy w' none) => (r0.kept0 g (Nat.le_refl _)).mono g.size)
  have HT := Lib.hid ht
  have hr0 := r0
  clear r0 ht w0
  by_cases hfit : z0.length + lenS z0 ≤ 1048576
  · have HTO := Lib.hid (fun (w' : World) (g : w.grownBy w' none) => toT a0 z0.length cap0 z0 w' (by omega) (HR.out w' g))
    have HM := Lib.hid (fun A c B w hB ha => jo_m A c B z0 w hfit hB ha)
    have HI := Lib.hid (fun A c B w hB ha ht => jo_i A c B z0 w hfit hB ha ht)
    have HE := Lib.hid (fun A A' c d B w ha hb => eqT A A' z0.length c d B z0 w (by omega) ha hb)
    generalize JO z0 = R at *
    obtain ⟨n, hn⟩ : ∃ n, z0.length = n := ⟨_, rfl⟩
    rw [hn] at HZ HTO HM HI HE ⊢
    clear hr0 hn HR
    go_enter Tryd.func9, Tryd.ntmps9
    go_wp2_with fail
    refine HZ.out.mono ?_
    rintro e w' ⟨⟨r, rfl, hr⟩, rfl⟩
    by_cases hr0 : r < 0
    · go_wp2_with fail
      go_ret
      exact ⟨rfl, Below.refl _ _⟩
    · go_wp2_with fail
      refine (HTO.out _ (World.grownBy.refl _ _)).mono ?_
      rintro e w1 ⟨A1, c1, rfl, ho1, g1⟩
      go_wp2_with fail
      refine (HM.out _ _ _ _ (Nat.le_refl _) (Rd.of_lst ho1 (Nat.mul_one _).symm)).mono ?_
      rintro e w2 ⟨rfl, g2⟩
      have G2 := g1.trans g2
      go_wp2_with fail
      refine (HTO.out _ G2).mono ?_
      rintro e w3 ⟨A3, c3, rfl, ho3, g3⟩
      have G3 := G2.trans g3
      go_wp2_with fail
      refine (HI.out _ _ _ _ (Nat.le_refl _) (Rd.of_lst ho3 (Nat.mul_one _).symm) (HT.out.kept G3)).mono ?_
      rintro e w4 ⟨rfl, g4⟩
      have G4 := G3.trans g4
      have ho3 := own_kept0 ho3 g4
      go_wp2_with fail
      refine (HTO.out _ G4).mono ?_
      rintro e w5 ⟨A5, c5, rfl, ho5, g5⟩
      have ho3 := own_kept0 ho3 g5
      have G5 := G4.trans g5
      go_wp2_with fail
      refine (HE.out A3 A5 c3 c5 _ _ (Rd.of_lst ho3 (Nat.mul_one _).symm) (Rd.of_lst ho5 (Nat.mul_one _).symm)).mono ?_
      rintro e w6 ⟨rfl, g6⟩
      have HG := Lib.hid (G5.trans g6)
      go_wp2_with fail
      go_ret
      exact ⟨rfl, gb_below HG.out⟩
  · go_enter Tryd.func9, Tryd.ntmps9
    go_wp2_with fail
    refine HZ.out.mono ?_
    rintro e w' ⟨⟨r, rfl, hr⟩, rfl⟩
    have hr0 : r < 0 := by
      by_cases h : r < 0
      · exact h
      · exact absurd (hr (by omega)) hfit
    go_wp2_with fail
    go_ret
    exact ⟨rfl, Below.refl _ _⟩

theorem gTab : Tryd.prog.globalNamed "internal/strconv.uint64pow10" = some 9 := by kernel_rfl
theorem tab_of_laid {W : World} {rest : List (String × DataW Unit)} (h : laidMet Tryd.prog (("math/bits.deBruijn32tab", Rows.laid_math_bits_deBruijn32tab) :: ("math/bits.deBruijn64tab", Rows.laid_math_bits_deBruijn64tab) :: ("internal/strconv.uint64pow10", Rows.laid_internal_strconv_uint64pow10) :: rest) W) : TabW W :=
  Lib.tabIs_of_head (rest := rest) gTab (by kernel_rfl) Tryd.underlying225 Tryd.underlying125 (by kernel_rfl) (by kernel_rfl)
    (show laidMet Tryd.prog (("internal/strconv.uint64pow10", Lib.tabData .u64 Lib.pow10Tab) :: rest) W from laidMet.tail (laidMet.tail h))

theorem of_laid {W : World} (h : laidMetH Tryd.prog Rows.fnExactJournalOfRow.laid W) : TabW W := by
  rw [MakeChecks.laidMetH_plain _ _ _ (by kernel_rfl)] at h
  exact tab_of_laid h
set_option maxRecDepth 100000 in
theorem door_met (os : Os) (args : Array Value) : laidMetH Tryd.prog Rows.fnExactJournalOfRow.laid ((World.doorLaid Tryd.prog 400 os).forCall (fun _ _ => 0) ⟨#[], args, []⟩).memory :=
  laidMetH_of_parts3 (fuel := 8) (laidMet_of_run' 8 (by kernel_rfl) (by kernel_rfl)) (by kernel_rfl) (by kernel_rfl)
set_option maxRecDepth 100000 in
theorem lifted (os : Os) (started : os.Started) (H : Type) (enc : TypeId × Value → H) :
    ReturnsInHanded {} Tryd.checked os 9 .any (fun w args => (Rows.fnExactJournalOfSpec.pre enc Tryd.prog Tryd.f9 [] false w args ∧ laidMetH Tryd.prog Rows.fnExactJournalOfRow.laid w) ∧ sizedMet enc Tryd.prog Tryd.f9 (OpenSpec.ofChange Rows.fnExactJournalOfSpec) false w args) (Rows.fnExactJournalOfSpec.post enc Tryd.prog Tryd.f9 false true false false) := by
  refine returnsInHanded_of_change_and (C := Tryd.checked) (X := fun w _ => laidMetH Tryd.prog Rows.fnExactJournalOfRow.laid w) (fun _ _ _ hh h => h.of_heap hh) own started (by kernel_rfl) Tryd.func9
    (ChangeSpec.witness_shaped (enc := enc) (C := Tryd.checked) (os := os) (X := fun w _ => laidMetH Tryd.prog Rows.fnExactJournalOfRow.laid w) false (World.doorLaid Tryd.prog 400 os) #[.slice none 0 0] 8 rfl (World.shaped_of_RefB (by kernel_rfl) (by kernel_rfl)) (by kernel_rfl) (by kernel_rfl) (by kernel_rfl) (door_met os _)) ?_
  intro W base args ds gs before hval0 hW _ _ hL _
  have hval : ∀ (j : Nat) t v, Tryd.f9.params[j]? = some t → args[j]? = some v → Value.okWide Tryd.prog W .any base t v := hval0
  have hT := of_laid hL
  have hW' := hW
  obtain ⟨p, q, hA0, hV, rfl, hfz, hnd⟩ := hW
  have hA : DataW.TrodAll enc Tryd.prog W 0 (fun _ => true) true Tryd.f9.params.toList args.toList ds p := hA0
  rw [Tryd.params9] at hA hval
  obtain ⟨v0, vs0, d0, ds0, p0, q0, hargs, rfl, rfl, h0, r0⟩ := trodAll_cons hA
  obtain ⟨rfl, rfl, rfl⟩ := trodAll_nil r0
  obtain rfl : args = #[v0] := by cases args; simp_all
  obtain ⟨rfl, rfl⟩ := trodVars_none hV
  obtain ⟨a0, len0, cap0, rfl⟩ := okWide_slice Tryd.underlying24 (hval 0 24 v0 rfl rfl)
  have k0 := h0
  have lt0 : ∀ x ∈ p0, x.block < W.heap.size := by obtain ⟨m, hm⟩ := k0; exact DataW.trod_lt m _ _ _ hm
  obtain ⟨z0, l0, m0, w0, r0'⟩ := opened_strings Tryd.underlying24 Tryd.underlying9 (by kernel_rfl) k0
  clear hA0 hval0
  refine (walk a0 len0 cap0 z0 W l0 m0 w0 r0' hT).mono fun e W' ⟨he, bel⟩ => ?_
  subst he
  exact ⟨_, rfl, _, _, _, [], _, [], hW', trodAll_mk1 (shut_bool Tryd.underlying4 _), (trodAll_cons_mk (Below.trod laidOut (by kernel_rfl) (of_decide_eq_true (by kernel_rfl)) k0 bel lt0) trodAll_mk0), rfl, bel.frame _, fun h => by cases h⟩

theorem over : Rows.fnExactJournalOfRow.holds Tryd.pinned (OpenSpec.ofChange Rows.fnExactJournalOfSpec) :=
  OpenClaim.holds_of_wide 9 Tryd.f9 rfl rfl rfl rfl rfl rfl rfl ⟨rfl, rfl, rfl, rfl, rfl⟩ rfl rfl rfl rfl rfl (by kernel_rfl) Tryd.func9 (by kernel_rfl)
    (of_decide_eq_true (by kernel_rfl)) (by unfold Func.isWrapper; first | (rw [if_pos (by decide +kernel)]; kernel_rfl) | (rw [if_neg (by decide +kernel)]; exact ⟨rfl, rfl⟩))
    (fun os started H enc _ => lifted os started H enc)

theorem proved : Rows.FnExactJournalOfCardSaid :=
  Claim7.holds_tied_plain_at .later [] _ true _ true
    over (fun _ h => by cases h) (by kernel_rfl) (fun _ h => by cases h) fnExactJournalOf_row_tie rfl ⟨rfl, rfl⟩ (by kernel_rfl) rfl
    (fun f fn hf hfn => by
      obtain rfl : f = 9 := Option.some.inj ((show Tryd.prog.funcNamed "loop.example/g01181/laws.FnExactJournalOf" = some 9 by kernel_rfl).symm.trans hf) |>.symm
      obtain rfl : fn = Tryd.f9 := (Option.some.inj (Tryd.func9.symm.trans hfn)).symm
      exact ⟨by kernel_rfl, fun j t ht => by
        rw [Tryd.params9] at ht
        have hm : t ∈ [24] := by simpa using Array.mem_of_getElem? ht
        have hall : ([24].all fun u => !Tryd.prog.wantsStandIn u) = true := by kernel_rfl
        exact (show Tryd.prog.wantsStandIn t = false by simpa using List.all_eq_true.1 hall t hm)⟩)
    (by kernel_rfl)
#print axioms proved

end Go.Proofs.YthlfclnfkgiddaaDoor.journalOf
