/- The law on ListText answers true at every list of integers (a tied card: the library's tables are laid as its text lays them). -/
import Derived.Test.YthnifmgjgdmmoacDoorRows
import Derived.Test.YthnifmgjgdmmoacDoorSlc
import Derived.Test.YthnifmgjgdmmoacDoorSmall
import Derived.Test.YthnifmgjgdmmoacDoorListI
import Derived.Test.YthnifmgjgdmmoacDoorDecNum
import Derived.Test.YthnifmgjgdmmoacDoorDec
import Derived.Test.YthnifmgjgdmmoacDoorFmt
import Derived.Test.YthnifmgjgdmmoacDoorDecI
import Derived.Test.YthnifmgjgdmmoacDoorTextNum
import Derived.Test.YthnifmgjgdmmoacDoorText
import Derived.Test.YthnifmgjgdmmoacDoorJoinLaid
import Derived.Test.YthnifmgjgdmmoacDoorText2
import Derived.Test.YthnifmgjgdmmoacDoorOpens
import Derived.Test.YthnifmgjgdmmoacDoorTie
import Derived.Test.YthnifmgjgdmmoacDoorCards
import Derived.WalkKit
import Derived.ProofKit
import Derived.OpenShut
import Derived.ShutString
import Derived.ChangeOld
import Derived.Below
import Derived.Lib.Hide
import Derived.BigQuiet
import Derived.Deep.QuietTactic
import Derived.WalkLawsBesides
import Derived.Outline
import Derived.ProofKit
import Derived.LaidMore
import Derived.OpenShut
import Derived.Stop.Joined
import Derived.SevenTiedAt
import Derived.Lib.LaidTab
import Derived.Lib.AppendIntMem
import Derived.Stop.LaidErr
import Derived.Below
import Derived.ChangeSlices
namespace Go.Proofs.YthnifmgjgdmmoacDoor.listText
open Go.ChangeShapes Go.WideShapes Go.ChangeAt Go.RowKit
open Go.ChangeMaps (open_string shut_string)
set_option linter.unusedVariables false
open Go Go.RowKit Go.ChangeShapes Go.WideShapes Go.ChangeAt
open Go.Proofs.YthnifmgjgdmmoacDoor.slc Go.Proofs.YthnifmgjgdmmoacDoor.small Go.Proofs.YthnifmgjgdmmoacDoor.listI Go.Proofs.YthnifmgjgdmmoacDoor.dec Go.Proofs.YthnifmgjgdmmoacDoor.decI Go.Proofs.YthnifmgjgdmmoacDoor.textNum Go.Proofs.YthnifmgjgdmmoacDoor.text Go.Proofs.YthnifmgjgdmmoacDoor.text2 Go.Proofs.YthnifmgjgdmmoacDoor.opens

theorem own : ownKnob Tryd.prog.godebug = none := by kernel_rfl
theorem laidOut : laidOutB Tryd.prog = true := by kernel_rfl

/-- A function answers for a list of integers with a text and a bool. -/
def Gst (F : Nat) (xs : List Int) (T : List UInt8) (ok : Bool) : Prop :=
  ∀ (A : Option Addr) (c B : Nat) (w : World), Rd w B A xs.length (cls xs) → B ≤ w.heap.size → TabW w →
    Calls Tryd.prog F #[.slice A xs.length c] w fun e w' => e = .returned (.tuple #[.string ⟨T.toArray⟩, .bool ok]) ∧ w.grownBy w' none

theorem spec_c (xs : List Int) (hm : xs.length ≤ 9223372036854775806) : Gst 17 xs (textT xs).1 (textT xs).2 := by
  intro A c B w hr hB ht
  have hl := fun w hB hr => list_spec A c B xs w hm hB hr
  by_cases h : xs.length ≤ 64 ∧ okL xs = true
  · rw [decide_eq_true h] at hl
    by_cases h0 : xs = []
    · have hT : textT xs = ([110, 111, 110, 101], true) := by unfold textT; rw [if_pos h, if_pos h0]
      rw [hT]
      subst h0
      go_enter Tryd.func17, Tryd.ntmps17
      go_wp2_with fail
      refine (hl _ hB hr).mono ?_
      rintro e w1 ⟨rfl, hg1⟩
      go_wp2_with go_in
      go_ret2
      exact ⟨rfl, hg1⟩
    · have hT : textT xs = (tx xs, true) := by unfold textT; rw [if_pos h, if_neg h0]
      rw [hT]
      have hx := fun w hB hr => text_spec A c B xs w (by cases xs with | nil => exact absurd rfl h0 | cons y r => simp) h.1 h.2 hB hr
      go_enter Tryd.func17, Tryd.ntmps17
      go_wp2_with fail
      refine (hl _ hB hr).mono ?_
      rintro e w1 ⟨rfl, hg1⟩
      go_wp2_with fail
      refine (hx _ (Nat.le_trans hB hg1.size) (hr.kept0 hg1 hB)).mono ?_
      rintro e w2 ⟨rfl, hg2⟩
      go_wp2_with fail
      go_ret2
      exact ⟨rfl, hg1.trans hg2⟩
  · rw [decide_eq_false h] at hl
    have hT : textT xs = ([], false) := by unfold textT; rw [if_neg h]
    rw [hT]
    go_enter Tryd.func17, Tryd.ntmps17
    go_wp2_with fail
    refine (hl _ hB hr).mono ?_
    rintro e w1 ⟨rfl, hg1⟩
    go_wp2_with fail
    go_ret2
    exact ⟨rfl, hg1⟩
theorem impl_c (xs : List Int) (hm : xs.length ≤ 9223372036854775806) : Gst 19 xs (textT xs).1 (textT xs).2 := by
  intro A c B w hr hB ht
  by_cases h : 1 ≤ xs.length ∧ xs.length ≤ 64
  · exact text_impl A c B xs w h.1 h.2 hB hr ht
  · by_cases h0 : xs = []
    · subst h0
      have hT : textT [] = ([110, 111, 110, 101], true) := by rfl
      rw [hT]
      go_enter Tryd.func19, Tryd.ntmps19
      go_wp2_with fail
      go_ret2
      exact ⟨rfl, World.grownBy.refl _ _⟩
    · have h64 : (64 : Int) < xs.length := by
        have : xs.length ≠ 0 := fun e => h0 (List.length_eq_zero_iff.1 e)
        omega
      have hT : textT xs = ([], false) := by unfold textT; rw [if_neg (fun q => by omega)]
      rw [hT]
      clear h h0 hT
      go_enter Tryd.func19, Tryd.ntmps19
      go_wp2_with fail
      go_ret2
      exact ⟨rfl, World.grownBy.refl _ _⟩

set_option maxHeartbeats 400000 in
set_option maxRecDepth 100000 in
theorem law (A : Option Addr) (c : Nat) (xs : List Int) (T : List UInt8) (ok : Bool) (w : World) (hm : xs.length ≤ 9223372036854775806) (hr : Rd w w.heap.size A xs.length (cls xs)) (ht : TabW w)
    (hs : Gst 17 xs T ok) (hi : Gst 19 xs T ok) :
    Calls Tryd.prog 6 #[.slice A xs.length c] w fun e w' => e = .returned (.bool true) ∧ Below w.heap.size w w' := by
  have hp : Ints (cls xs) xs.length := fun j _ => ⟨_, rfl⟩
  have HS := Lib.hid hs
  have HI := Lib.hid hi
  clear hs hi
  by_cases hl : xs.length ≤ 1048576
  · have hl' : (xs.length : Int) ≤ 1048576 := by omega
    go_enter Tryd.func6, Tryd.ntmps6
    go_wp2_with fail
    refine (toI _ _ _ _ _ (by omega) hp hr).mono ?_
    rintro e w1 ⟨A1, c1, rfl, ho1, hg1⟩
    have R1 := Rd.of_lst ho1 (Nat.mul_one _).symm
    go_wp2_with fail
    refine (HS.out _ _ _ _ R1 (Nat.le_refl _) (ht.kept hg1)).mono ?_
    rintro e w2 ⟨rfl, hg2⟩
    have g2 := hg1.trans hg2
    go_wp2_with fail
    refine (toI _ _ _ _ _ (by omega) hp ((hr.kept0 g2 (Nat.le_refl _)).mono g2.size)).mono ?_
    rintro e w3 ⟨A3, c3, rfl, ho3, hg3⟩
    have R3 := Rd.of_lst ho3 (Nat.mul_one _).symm
    have g3 := g2.trans hg3
    go_wp2_with fail
    refine (HI.out _ _ _ _ R3 (Nat.le_refl _) (ht.kept g3)).mono ?_
    rintro e w4 ⟨rfl, hg4⟩
    have g4 := g3.trans hg4
    go_wp2_with fail
    refine (toI _ _ _ _ _ (by omega) hp ((hr.kept0 g4 (Nat.le_refl _)).mono g4.size)).mono ?_
    rintro e w5 ⟨A5, c5, rfl, ho5, hg5⟩
    have R5 := Rd.of_lst ho5 (Nat.mul_one _).symm
    have h35 := hg4.trans hg5
    go_wp2_with fail
    refine (eqI_true _ _ _ _ _ _ _ _ (by omega) hp ((R3.kept0 h35 (Nat.le_refl _)).mono h35.size) R5).mono ?_
    rintro e w6 ⟨rfl, hg6⟩
    go_wp2_with fail
    go_ret
    exact ⟨rfl, gb_below ((g4.trans hg5).trans hg6)⟩
  · have hl' : (1048576 : Int) < xs.length := by omega
    go_enter Tryd.func6, Tryd.ntmps6
    go_wp2_with fail
    go_ret
    exact ⟨rfl, Below.refl _ _⟩
theorem walk (a0 : Option Addr) (len0 cap0 : Nat) (z0 : List Int) (w : World) (l0 : z0.length = len0) (m0 : len0 ≤ maxLen) (w0 : ∀ x ∈ z0, (Lit.int .i64 x).wf = true) (r0 : Rd w w.heap.size a0 len0 (fun j => .int .i64 (z0.getD j 0))) (ht : TabW w) :
    Calls Tryd.prog 6 #[.slice a0 len0 cap0] w fun e w' => e = .returned (.bool true) ∧ Below w.heap.size w w' := by
  subst l0
  by_cases hm : z0.length ≤ 9223372036854775806
  · exact law a0 cap0 z0 _ _ w hm r0 ht (spec_c z0 hm) (impl_c z0 hm)
  · unfold maxLen at m0
    have hl' : (1048576 : Int) < z0.length := by omega
    go_enter Tryd.func6, Tryd.ntmps6
    go_wp2_with fail
    go_ret
    exact ⟨rfl, Below.refl _ _⟩

theorem gTab : Tryd.prog.globalNamed "internal/strconv.uint64pow10" = some 2 := by kernel_rfl
theorem tab_of_laid {W : World} {rest : List (String × DataW Unit)} (h : laidMet Tryd.prog (("math/bits.deBruijn32tab", Rows.laid_math_bits_deBruijn32tab) :: ("math/bits.deBruijn64tab", Rows.laid_math_bits_deBruijn64tab) :: ("internal/strconv.uint64pow10", Rows.laid_internal_strconv_uint64pow10) :: rest) W) : TabW W :=
  Lib.tabIs_of_head (rest := rest) gTab (by kernel_rfl) Tryd.underlying107 Tryd.underlying61 (by kernel_rfl) (by kernel_rfl)
    (show laidMet Tryd.prog (("internal/strconv.uint64pow10", Lib.tabData .u64 Lib.pow10Tab) :: rest) W from laidMet.tail (laidMet.tail h))
theorem of_laid {W : World} (h : laidMetH Tryd.prog Rows.fnExactListTextRow.laid W) : TabW W := by
  rw [MakeChecks.laidMetH_plain _ _ _ (by kernel_rfl)] at h
  exact tab_of_laid h
set_option maxRecDepth 100000 in
theorem door_met (os : Os) (args : Array Value) : laidMetH Tryd.prog Rows.fnExactListTextRow.laid ((World.doorLaid Tryd.prog 400 os).forCall (fun _ _ => 0) ⟨#[], args, []⟩).memory :=
  laidMetH_of_parts3 (fuel := 8) (laidMet_of_run' 8 (by kernel_rfl) (by kernel_rfl)) (by kernel_rfl) (by kernel_rfl)
set_option maxRecDepth 100000 in
theorem lifted (os : Os) (started : os.Started) (H : Type) (enc : TypeId × Value → H) :
    ReturnsInHanded {} Tryd.checked os 6 .any (fun w args => (Rows.fnExactListTextSpec.pre enc Tryd.prog Tryd.f6 [] false w args ∧ laidMetH Tryd.prog Rows.fnExactListTextRow.laid w) ∧ sizedMet enc Tryd.prog Tryd.f6 (OpenSpec.ofChange Rows.fnExactListTextSpec) false w args) (Rows.fnExactListTextSpec.post enc Tryd.prog Tryd.f6 false true false false) := by
  refine returnsInHanded_of_change_and (C := Tryd.checked) (X := fun w _ => laidMetH Tryd.prog Rows.fnExactListTextRow.laid w) (fun _ _ _ hh h => h.of_heap hh) own started (by kernel_rfl) Tryd.func6
    (ChangeSpec.witness_shaped (enc := enc) (C := Tryd.checked) (os := os) (X := fun w _ => laidMetH Tryd.prog Rows.fnExactListTextRow.laid w) false (World.doorLaid Tryd.prog 400 os) #[.slice none 0 0] 8 rfl (World.shaped_of_RefB (by kernel_rfl) (by kernel_rfl)) (by kernel_rfl) (by kernel_rfl) (by kernel_rfl) (door_met os _)) ?_
  intro W base args ds gs before hval0 hW _ _ hL _
  have hval : ∀ (j : Nat) t v, Tryd.f6.params[j]? = some t → args[j]? = some v → Value.okWide Tryd.prog W .any base t v := hval0
  have hT := of_laid hL
  have hW' := hW
  obtain ⟨p, q, hA0, hV, rfl, hfz, hnd⟩ := hW
  have hA : DataW.TrodAll enc Tryd.prog W 0 (fun _ => true) true Tryd.f6.params.toList args.toList ds p := hA0
  rw [Tryd.params6] at hA hval
  obtain ⟨v0, vs0, d0, ds0, p0, q0, hargs, rfl, rfl, h0, r0⟩ := trodAll_cons hA
  obtain ⟨rfl, rfl, rfl⟩ := trodAll_nil r0
  obtain rfl : args = #[v0] := by cases args; simp_all
  obtain ⟨rfl, rfl⟩ := trodVars_none hV
  obtain ⟨a0, len0, cap0, rfl⟩ := okWide_slice Tryd.underlying32 (hval 0 32 v0 rfl rfl)
  have k0 := h0
  have lt0 : ∀ x ∈ p0, x.block < W.heap.size := by obtain ⟨m, hm⟩ := k0; exact DataW.trod_lt m _ _ _ hm
  obtain ⟨z0, l0, m0, w0, r0'⟩ := opened_ints Tryd.underlying32 Tryd.underlying2 (by kernel_rfl) k0
  clear hA0 hval0
  refine (walk a0 len0 cap0 z0 W l0 m0 w0 r0' hT).mono fun e W' ⟨he, bel⟩ => ?_
  subst he
  exact ⟨_, rfl, _, _, _, [], _, [], hW', trodAll_mk1 (shut_bool Tryd.underlying4 _), (trodAll_cons_mk (Below.trod laidOut (by kernel_rfl) (of_decide_eq_true (by kernel_rfl)) k0 bel lt0) trodAll_mk0), rfl, bel.frame _, fun h => by cases h⟩

theorem over : Rows.fnExactListTextRow.holds Tryd.pinned (OpenSpec.ofChange Rows.fnExactListTextSpec) :=
  OpenClaim.holds_of_wide 6 Tryd.f6 rfl rfl rfl rfl rfl rfl rfl ⟨rfl, rfl, rfl, rfl, rfl⟩ rfl rfl rfl rfl rfl (by kernel_rfl) Tryd.func6 (by kernel_rfl)
    (of_decide_eq_true (by kernel_rfl)) (by unfold Func.isWrapper; first | (rw [if_pos (by decide +kernel)]; kernel_rfl) | (rw [if_neg (by decide +kernel)]; exact ⟨rfl, rfl⟩))
    (fun os started H enc _ => lifted os started H enc)

theorem proved : Rows.FnExactListTextCardSaid :=
  Claim7.holds_tied_plain_at .later [] _ true _ true
    over (fun _ h => by cases h) (by kernel_rfl) (fun _ h => by cases h) fnExactListText_row_tie rfl ⟨rfl, rfl⟩ (by kernel_rfl) rfl
    (fun f fn hf hfn => by
      obtain rfl : f = 6 := Option.some.inj ((show Tryd.prog.funcNamed "loop.example/g01181/laws.FnExactListText" = some 6 by kernel_rfl).symm.trans hf) |>.symm
      obtain rfl : fn = Tryd.f6 := (Option.some.inj (Tryd.func6.symm.trans hfn)).symm
      exact ⟨by kernel_rfl, fun j t ht => by
        rw [Tryd.params6] at ht
        have hm : t ∈ [32] := by simpa using Array.mem_of_getElem? ht
        have hall : ([32].all fun u => !Tryd.prog.wantsStandIn u) = true := by kernel_rfl
        exact (show Tryd.prog.wantsStandIn t = false by simpa using List.all_eq_true.1 hall t hm)⟩)
    (by kernel_rfl)
#print axioms proved

end Go.Proofs.YthnifmgjgdmmoacDoor.listText
