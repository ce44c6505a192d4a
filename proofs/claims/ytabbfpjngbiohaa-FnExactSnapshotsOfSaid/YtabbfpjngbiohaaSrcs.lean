/- Valid sources, by the program and the model. -/
import Derived.Test.YtabbfpjngbiohaaRows
import Derived.Test.YtabbfpjngbiohaaSlc
import Derived.Test.YtabbfpjngbiohaaSmall
import Derived.Test.YtabbfpjngbiohaaOpens
import Derived.Test.YtabbfpjngbiohaaFloats
import Derived.Test.YtabbfpjngbiohaaRound
import Derived.Test.YtabbfpjngbiohaaValues
import Derived.Test.YtabbfpjngbiohaaConv
import Derived.Test.YtabbfpjngbiohaaFWalk
import Derived.Test.YtabbfpjngbiohaaSources
import Derived.Test.YtabbfpjngbiohaaListSrc
import Derived.Test.YtabbfpjngbiohaaSeeds
import Derived.WalkKit
import Derived.ProofKit
import Derived.OpenShut
import Derived.ShutString
import Derived.ChangeOld
import Derived.Below
import Derived.Lib.Hide
import Derived.BigQuiet
import Derived.Deep.QuietTactic
import Derived.WalkLawsBesides
import Derived.Outline
import Derived.Deep.QuietTactic
import Derived.BigQuiet
import Derived.Deep.LoopGhost
namespace Go.Proofs.Ytabbfpjngbiohaa.srcs
open Go.ChangeShapes Go.WideShapes Go.ChangeAt Go.RowKit
open Go.ChangeMaps (open_string shut_string)
set_option linter.unusedVariables false
open Go Ieee Go.RowKit
open Go.Proofs.Ytabbfpjngbiohaa.slc Go.Proofs.Ytabbfpjngbiohaa.small Go.Proofs.Ytabbfpjngbiohaa.sources Go.Proofs.Ytabbfpjngbiohaa.listSrc Go.Proofs.Ytabbfpjngbiohaa.seeds

attribute [local go_sem] run_store_float
/-- A valid source. -/
def sb (x : Int × Int × Nat × Int) : Bool := dirB x.1 x.2.1 && decide (0 ≤ x.2.2.2 ∧ x.2.2.2 ≤ 2147483647)
/-- Valid sources. -/
def vs (ss : List (Int × Int × Nat × Int)) : Bool := decide (ss.length ≤ 4) && ss.all sb
theorem vs_bad {ss : List (Int × Int × Nat × Int)} {k : Nat} (hk : k < ss.length) (h : sb (ss.getD k (0, 0, 0, 0)) = false) : vs ss = false := by
  unfold vs
  rw [show ss.all sb = false from by
    rw [List.all_eq_false]
    refine ⟨ss[k], List.getElem_mem hk, ?_⟩
    rw [show ss.getD k (0, 0, 0, 0) = ss[k] by simp [List.getD, hk]] at h
    simp [h]]
  simp
def Upto (ss : List (Int × Int × Nat × Int)) (k : Nat) : Prop := ∀ j, j < k → sb (ss.getD j (0, 0, 0, 0)) = true
theorem Upto.zero (ss : List (Int × Int × Nat × Int)) : Upto ss 0 := fun j h => absurd h (by omega)
theorem Upto.succ {ss : List (Int × Int × Nat × Int)} {k : Nat} (h : Upto ss k) (hk : sb (ss.getD k (0, 0, 0, 0)) = true) : Upto ss (k + 1) := fun j hj => by
  by_cases e : j = k
  · subst e; exact hk
  · exact h j (by omega)
theorem Upto.vs {ss : List (Int × Int × Nat × Int)} (h : Upto ss ss.length) (hl : ss.length ≤ 4) : vs ss = true := by
  unfold srcs.vs
  rw [decide_eq_true hl, show ss.all sb = true from ?_]
  · rfl
  · rw [List.all_eq_true]
    intro x hx
    obtain ⟨k, hk, rfl⟩ := List.getElem_of_mem hx
    have := h k hk
    rwa [show ss.getD k (0, 0, 0, 0) = ss[k] by simp [List.getD, hk]] at this

set_option maxHeartbeats 800000 in
set_option maxRecDepth 100000 in
theorem srcs_impl (A : Option Addr) (c B : Nat) (ss : List (Int × Int × Nat × Int)) (w : World) (hm : ss.length ≤ 9223372036854775807) (hr : Rd w B A (ss.length * 4) (scell ss)) (hB : B ≤ w.heap.size) :
    Calls Try.prog 40 #[.slice A ss.length c] w fun e w' => e = .returned (.bool (vs ss)) ∧ w.grownBy w' none := by
  by_cases hl : 4 < ss.length
  · have HV := Lib.hid (show vs ss = false by unfold vs; rw [decide_eq_false (by omega)]; rfl)
    go_enter Try.func40, Try.ntmps40
    go_wp2_with fail
    go_ret
    exact ⟨ret_bool HV.out.symm, World.grownBy.refl _ _⟩
  · have hl4 : ss.length ≤ 4 := by omega
    clear hl
    go_enter Try.func40, Try.ntmps40
    go_wp2_with fail
    go_loopw [10] (fun i wr => ∃ k : Nat, k ≤ ss.length ∧ i = .int .i64 k ∧ Upto ss k ∧ w.grownBy wr none) (fun i _ => ss.length - (intOf i).toNat)
    case atStart => exact ⟨0, Nat.zero_le _, rfl, Upto.zero _, World.grownBy.refl _ _⟩
    case round =>
      obtain ⟨k, hk, rfl, hpre, hg⟩ := hrel
      by_cases hlt : k < ss.length
      · obtain ⟨ad, u, v, s, g, rfl, _, hx, hc0, hc1, hc2, hc3⟩ := Rd.four (hr.kept0 hg hB) hlt
        have HPR := Lib.hid hpre
        have HX := Lib.hid hx
        have HG := Lib.hid hg
        clear hpre hx hg
        go_wp2_with fail
        refine (dir_impl _ _ _).mono ?_
        rintro e w1 ⟨rfl, hg1⟩
        obtain ⟨⟨_, _, _, b3⟩, _⟩ := cells4 (block1 hg1)
        have HG1 := Lib.hid (HG.out.trans ((World.grownBy_alloc _ _ none).trans hg1))
        clear hc0 hc1 hc2 hc3 hg1
        cases hd : dirB u v
        · have HV := Lib.hid (vs_bad hlt (by rw [HX.out]; unfold sb; rw [hd]; rfl))
          clear hd
          go_wp2_with fail
          go_ret
          exact ⟨ret_bool HV.out.symm, HG1.out⟩
        · by_cases hs : 0 ≤ s ∧ s ≤ 2147483647
          · have HU := Lib.hid (HPR.out.succ (by rw [HX.out]; unfold sb; rw [hd, decide_eq_true hs]; rfl))
            obtain ⟨s0, s1⟩ := hs
            clear hd
            go_wp2_with fail
            refine (seed_yes _ _ s0 s1).mono ?_
            rintro e w' ⟨rfl, rfl⟩
            go_wp2_with fail
            go_roundw
            case rel => exact ⟨k + 1, by omega, by go_num, HU.out, HG1.out⟩
            case measure => simp [intOf]; omega
          · have HV := Lib.hid (vs_bad hlt (by rw [HX.out]; unfold sb; rw [hd, decide_eq_false hs]; rfl))
            have HS := Lib.hid (show s < 0 ∨ 2147483647 < s by omega)
            clear hd hs
            go_wp2_with fail
            refine (seed_no _ _ HS.out).mono ?_
            rintro e w' ⟨rfl, rfl⟩
            go_wp2_with fail
            go_ret
            exact ⟨ret_bool HV.out.symm, HG1.out⟩
      · obtain rfl : k = ss.length := by omega
        have HV := Lib.hid (hpre.vs hl4)
        clear hpre
        go_wp2_with fail
        go_ret
        exact ⟨ret_bool HV.out.symm, hg⟩
set_option maxHeartbeats 800000 in
set_option maxRecDepth 100000 in
theorem srcs_spec (A : Option Addr) (c B : Nat) (ss : List (Int × Int × Nat × Int)) (w : World) (hm : ss.length ≤ 9223372036854775807) (hr : Rd w B A (ss.length * 4) (scell ss)) (hB : B ≤ w.heap.size) :
    Calls Try.prog 125 #[.slice A ss.length c] w fun e w' => e = .returned (.bool (vs ss)) ∧ w.grownBy w' none := by
  by_cases hl : 4 < ss.length
  · have HV := Lib.hid (show vs ss = false by unfold vs; rw [decide_eq_false (by omega)]; rfl)
    go_enter Try.func125, Try.ntmps125
    go_wp2_with fail
    go_loopw [3] (fun i wr => i = .int .i64 0 ∧ w.grownBy wr none) (fun i _ => ss.length - (intOf i).toNat)
    case atStart => exact ⟨rfl, World.grownBy.refl _ _⟩
    case round =>
      obtain ⟨rfl, hg⟩ := hrel
      go_wp2_with fail
      go_ret
      exact ⟨ret_bool (by rw [HV.out]; exact decide_eq_false (by omega)), hg⟩
  · have hl4 : ss.length ≤ 4 := by omega
    clear hl
    go_enter Try.func125, Try.ntmps125
    go_wp2_with fail
    go_loopw [3] (fun i wr => ∃ k : Nat, k ≤ ss.length ∧ i = .int .i64 k ∧ Upto ss k ∧ w.grownBy wr none) (fun i _ => ss.length - (intOf i).toNat)
    case atStart => exact ⟨0, Nat.zero_le _, rfl, Upto.zero _, World.grownBy.refl _ _⟩
    case round =>
      obtain ⟨k, hk, rfl, hpre, hg⟩ := hrel
      by_cases hlt : k < ss.length
      · obtain ⟨ad, u, v, s, g, rfl, _, hx, hc0, hc1, hc2, hc3⟩ := Rd.four (hr.kept0 hg hB) hlt
        have HPR := Lib.hid hpre
        have HX := Lib.hid hx
        have HG := Lib.hid hg
        clear hpre hx hg
        go_wp2_with fail
        refine (dir_spec _ _ _).mono ?_
        rintro e w1 ⟨rfl, hg1⟩
        have HG1 := Lib.hid (HG.out.trans hg1)
        obtain ⟨ad', u', v', s', g', e', _, hx', hd0, hd1, hd2, hd3⟩ := Rd.four (hr.kept0 HG1.out hB) hlt
        obtain rfl : ad = ad' := by injection e'
        rw [HX.out] at hx'
        simp only [Prod.mk.injEq] at hx'
        obtain ⟨rfl, rfl, rfl, rfl⟩ := hx'
        clear hc0 hc1 hc2 hc3 hg1 e'
        cases hd : dirB u v
        · have HV := Lib.hid (vs_bad hlt (by rw [HX.out]; unfold sb; rw [hd]; rfl))
          clear hd
          go_wp2_with fail
          go_ret
          exact ⟨ret_bool HV.out.symm, HG1.out⟩
        · by_cases hs : 0 ≤ s ∧ s ≤ 2147483647
          · have HU := Lib.hid (HPR.out.succ (by rw [HX.out]; unfold sb; rw [hd, decide_eq_true hs]; rfl))
            obtain ⟨s0, s1⟩ := hs
            clear hd
            go_wp2_with fail
            refine (sseed_yes _ _ s0 s1).mono ?_
            rintro e w' ⟨rfl, rfl⟩
            go_wp2_with fail
            go_roundw
            case rel => exact ⟨k + 1, by omega, by go_num, HU.out, HG1.out⟩
            case measure => simp [intOf]; omega
          · have HV := Lib.hid (vs_bad hlt (by rw [HX.out]; unfold sb; rw [hd, decide_eq_false hs]; rfl))
            have HS := Lib.hid (show s < 0 ∨ 2147483647 < s by omega)
            clear hd hs
            go_wp2_with fail
            refine (sseed_no _ _ HS.out).mono ?_
            rintro e w' ⟨rfl, rfl⟩
            go_wp2_with fail
            go_ret
            exact ⟨ret_bool HV.out.symm, HG1.out⟩
      · obtain rfl : k = ss.length := by omega
        have HV := Lib.hid (hpre.vs hl4)
        clear hpre
        go_wp2_with fail
        go_ret
        exact ⟨ret_bool (by rw [HV.out]; exact decide_eq_true (by omega)), hg⟩
theorem srcs_valid (A : Option Addr) (c B : Nat) (ss : List (Int × Int × Nat × Int)) (w : World) (hm : ss.length ≤ 9223372036854775807) (hr : Rd w B A (ss.length * 4) (scell ss)) (hB : B ≤ w.heap.size) :
    Calls Try.prog 38 #[.slice A ss.length c] w fun e w' => e = .returned (.bool (vs ss)) ∧ w.grownBy w' none := by
  have H := Lib.hid (srcs_spec A c B ss w hm hr hB)
  clear hr
  go_enter Try.func38, Try.ntmps38
  go_wp2_with fail
  refine H.out.mono ?_
  rintro e w1 ⟨rfl, hg1⟩
  go_wp2_with fail
  go_ret
  exact ⟨rfl, hg1⟩

end Go.Proofs.Ytabbfpjngbiohaa.srcs
