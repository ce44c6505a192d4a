/- Snapshots, by the program and the model. -/
import Derived.Test.YtabbfpjngbiohaaRows
import Derived.Test.YtabbfpjngbiohaaSlc
import Derived.Test.YtabbfpjngbiohaaSmall
import Derived.Test.YtabbfpjngbiohaaOpens
import Derived.Test.YtabbfpjngbiohaaPlaces
import Derived.Test.YtabbfpjngbiohaaPlaceSet
import Derived.Test.YtabbfpjngbiohaaSteps
import Derived.Test.YtabbfpjngbiohaaFloats
import Derived.Test.YtabbfpjngbiohaaRound
import Derived.Test.YtabbfpjngbiohaaValues
import Derived.Test.YtabbfpjngbiohaaConv
import Derived.Test.YtabbfpjngbiohaaFWalk
import Derived.Test.YtabbfpjngbiohaaFinWalk
import Derived.Test.YtabbfpjngbiohaaRoot
import Derived.Test.YtabbfpjngbiohaaFloat2
import Derived.Test.YtabbfpjngbiohaaFloat3
import Derived.Test.YtabbfpjngbiohaaPhase
import Derived.Test.YtabbfpjngbiohaaSine
import Derived.Test.YtabbfpjngbiohaaPhasor
import Derived.Test.YtabbfpjngbiohaaListC
import Derived.Test.YtabbfpjngbiohaaListCC
import Derived.Test.YtabbfpjngbiohaaSteerNum
import Derived.Test.YtabbfpjngbiohaaSineIn
import Derived.Test.YtabbfpjngbiohaaPolyNum
import Derived.Test.YtabbfpjngbiohaaPolyW
import Derived.Test.YtabbfpjngbiohaaGPoly
import Derived.Test.YtabbfpjngbiohaaGNum
import Derived.Test.YtabbfpjngbiohaaRq
import Derived.Test.YtabbfpjngbiohaaPowW
import Derived.Test.YtabbfpjngbiohaaTwinNum
import Derived.Test.YtabbfpjngbiohaaPhDef
import Derived.Test.YtabbfpjngbiohaaPhTabA
import Derived.Test.YtabbfpjngbiohaaPhTabB
import Derived.Test.YtabbfpjngbiohaaPhTabC
import Derived.Test.YtabbfpjngbiohaaPhTabD
import Derived.Test.YtabbfpjngbiohaaPhVal
import Derived.Test.YtabbfpjngbiohaaPhMath
import Derived.Test.YtabbfpjngbiohaaPhPhi
import Derived.Test.YtabbfpjngbiohaaSteerR
import Derived.Test.YtabbfpjngbiohaaMulAny
import Derived.Test.YtabbfpjngbiohaaFitsAny
import Derived.Test.YtabbfpjngbiohaaSeeds
import Derived.Test.YtabbfpjngbiohaaSymbol
import Derived.Test.YtabbfpjngbiohaaNoise
import Derived.Test.YtabbfpjngbiohaaSources
import Derived.Test.YtabbfpjngbiohaaListSrc
import Derived.Test.YtabbfpjngbiohaaSrcs
import Derived.Test.YtabbfpjngbiohaaSteering
import Derived.Test.YtabbfpjngbiohaaShot
import Derived.Test.YtabbfpjngbiohaaShotS
import Derived.WalkKit
import Derived.ProofKit
import Derived.OpenShut
import Derived.ShutString
import Derived.ChangeOld
import Derived.Below
import Derived.Lib.Hide
import Derived.BigQuiet
import Derived.Deep.QuietTactic
import Derived.WalkLawsBesides
import Derived.Outline
import Derived.Deep.QuietTactic
import Derived.BigQuiet
import Derived.Deep.LoopGhost
namespace Go.Proofs.Ytabbfpjngbiohaa.snap
open Go.ChangeShapes Go.WideShapes Go.ChangeAt Go.RowKit
open Go.ChangeMaps (open_string shut_string)
set_option linter.unusedVariables false
open Go Ieee Go.RowKit
open Go.Proofs.Ytabbfpjngbiohaa.slc Go.Proofs.Ytabbfpjngbiohaa.small Go.Proofs.Ytabbfpjngbiohaa.opens Go.Proofs.Ytabbfpjngbiohaa.places Go.Proofs.Ytabbfpjngbiohaa.placeSet Go.Proofs.Ytabbfpjngbiohaa.listC Go.Proofs.Ytabbfpjngbiohaa.listCC Go.Proofs.Ytabbfpjngbiohaa.seeds Go.Proofs.Ytabbfpjngbiohaa.sources Go.Proofs.Ytabbfpjngbiohaa.srcs Go.Proofs.Ytabbfpjngbiohaa.shot Go.Proofs.Ytabbfpjngbiohaa.shotS

def caOk (ps : List (Int × Int)) (ss : List (Int × Int × Nat × Int)) (s : Int) : Bool := vp ps && vs ss && decide (0 ≤ s ∧ s ≤ 2147483647)

set_option maxHeartbeats 800000 in
theorem can_i (A A' : Option Addr) (c c' B : Nat) (ps : List (Int × Int)) (ss : List (Int × Int × Nat × Int)) (s : Int) (w : World) (hm : ps.length ≤ 9223372036854775807) (hm' : ss.length ≤ 9223372036854775807) (hr : Rd w B A (ps.length * 2) (pcell ps)) (hr' : Rd w B A' (ss.length * 4) (scell ss)) (hB : B ≤ w.heap.size) :
    Calls Try.prog 131 #[.slice A ps.length c, .slice A' ss.length c', .int .i64 s] w fun e w' => e = .returned (.bool (caOk ps ss s)) ∧ w.grownBy w' none := by
  have HC := Lib.hid (is_impl A c B ps w hm hr hB)
  have HS := Lib.hid (fun (w1 : World) (g : w.grownBy w1 none) => srcs_impl A' c' B ss w1 hm' (hr'.kept0 g hB) (Nat.le_trans hB g.size))
  clear hr hr'
  cases hv : vp ps
  · have HV := Lib.hid (show caOk ps ss s = false by unfold caOk; rw [hv]; rfl)
    rw [hv] at HC
    clear hv
    go_enter Try.func131, Try.ntmps131
    go_wp2_with fail
    refine HC.out.mono ?_
    rintro e w1 ⟨rfl, g1⟩
    go_wp2_with fail
    go_ret
    exact ⟨ret_bool HV.out.symm, g1⟩
  · cases hs : vs ss
    · have HV := Lib.hid (show caOk ps ss s = false by unfold caOk; rw [hv, hs]; rfl)
      rw [hv] at HC
      rw [hs] at HS
      clear hv hs
      go_enter Try.func131, Try.ntmps131
      go_wp2_with fail
      refine HC.out.mono ?_
      rintro e w1 ⟨rfl, g1⟩
      go_wp2_with fail
      refine (HS.out _ g1).mono ?_
      rintro e w2 ⟨rfl, g2⟩
      go_wp2_with fail
      go_ret
      exact ⟨ret_bool HV.out.symm, g1.trans g2⟩
    · rw [hv] at HC
      rw [hs] at HS
      by_cases hd : 0 ≤ s ∧ s ≤ 2147483647
      · have HV := Lib.hid (show caOk ps ss s = true by unfold caOk; rw [hv, hs, decide_eq_true hd]; rfl)
        obtain ⟨s0, s1⟩ := hd
        clear hv hs
        go_enter Try.func131, Try.ntmps131
        go_wp2_with fail
        refine HC.out.mono ?_
        rintro e w1 ⟨rfl, g1⟩
        go_wp2_with fail
        refine (HS.out _ g1).mono ?_
        rintro e w2 ⟨rfl, g2⟩
        go_wp2_with fail
        refine (seed_yes _ _ s0 s1).mono ?_
        rintro e w' ⟨rfl, rfl⟩
        go_wp2_with fail
        go_ret
        exact ⟨ret_bool HV.out.symm, g1.trans g2⟩
      · have HV := Lib.hid (show caOk ps ss s = false by unfold caOk; rw [hv, hs, decide_eq_false hd]; rfl)
        have HN := Lib.hid (show s < 0 ∨ 2147483647 < s by omega)
        clear hv hs hd
        go_enter Try.func131, Try.ntmps131
        go_wp2_with fail
        refine HC.out.mono ?_
        rintro e w1 ⟨rfl, g1⟩
        go_wp2_with fail
        refine (HS.out _ g1).mono ?_
        rintro e w2 ⟨rfl, g2⟩
        go_wp2_with fail
        refine (seed_no _ _ HN.out).mono ?_
        rintro e w' ⟨rfl, rfl⟩
        go_wp2_with fail
        go_ret
        exact ⟨ret_bool HV.out.symm, g1.trans g2⟩

set_option maxHeartbeats 800000 in
theorem can_s (A A' : Option Addr) (c c' B : Nat) (ps : List (Int × Int)) (ss : List (Int × Int × Nat × Int)) (s : Int) (w : World) (hm : ps.length ≤ 9223372036854775807) (hm' : ss.length ≤ 9223372036854775807) (hr : Rd w B A (ps.length * 2) (pcell ps)) (hr' : Rd w B A' (ss.length * 4) (scell ss)) (hB : B ≤ w.heap.size) :
    Calls Try.prog 128 #[.slice A ps.length c, .slice A' ss.length c', .int .i64 s] w fun e w' => e = .returned (.bool (caOk ps ss s)) ∧ w.grownBy w' none := by
  have HC := Lib.hid (is_spec A c B ps w hm hr hB)
  have HS := Lib.hid (fun (w1 : World) (g : w.grownBy w1 none) => srcs_spec A' c' B ss w1 hm' (hr'.kept0 g hB) (Nat.le_trans hB g.size))
  clear hr hr'
  cases hv : vp ps
  · have HV := Lib.hid (show caOk ps ss s = false by unfold caOk; rw [hv]; rfl)
    rw [hv] at HC
    clear hv
    go_enter Try.func128, Try.ntmps128
    go_wp2_with fail
    refine HC.out.mono ?_
    rintro e w1 ⟨rfl, g1⟩
    go_wp2_with fail
    go_ret
    exact ⟨ret_bool HV.out.symm, g1⟩
  · cases hs : vs ss
    · have HV := Lib.hid (show caOk ps ss s = false by unfold caOk; rw [hv, hs]; rfl)
      rw [hv] at HC
      rw [hs] at HS
      clear hv hs
      go_enter Try.func128, Try.ntmps128
      go_wp2_with fail
      refine HC.out.mono ?_
      rintro e w1 ⟨rfl, g1⟩
      go_wp2_with fail
      refine (HS.out _ g1).mono ?_
      rintro e w2 ⟨rfl, g2⟩
      go_wp2_with fail
      go_ret
      exact ⟨ret_bool HV.out.symm, g1.trans g2⟩
    · rw [hv] at HC
      rw [hs] at HS
      by_cases hd : 0 ≤ s ∧ s ≤ 2147483647
      · have HV := Lib.hid (show caOk ps ss s = true by unfold caOk; rw [hv, hs, decide_eq_true hd]; rfl)
        obtain ⟨s0, s1⟩ := hd
        clear hv hs
        go_enter Try.func128, Try.ntmps128
        go_wp2_with fail
        refine HC.out.mono ?_
        rintro e w1 ⟨rfl, g1⟩
        go_wp2_with fail
        refine (HS.out _ g1).mono ?_
        rintro e w2 ⟨rfl, g2⟩
        go_wp2_with fail
        refine (sseed_yes _ _ s0 s1).mono ?_
        rintro e w' ⟨rfl, rfl⟩
        go_wp2_with fail
        go_ret
        exact ⟨ret_bool HV.out.symm, g1.trans g2⟩
      · have HV := Lib.hid (show caOk ps ss s = false by unfold caOk; rw [hv, hs, decide_eq_false hd]; rfl)
        have HN := Lib.hid (show s < 0 ∨ 2147483647 < s by omega)
        clear hv hs hd
        go_enter Try.func128, Try.ntmps128
        go_wp2_with fail
        refine HC.out.mono ?_
        rintro e w1 ⟨rfl, g1⟩
        go_wp2_with fail
        refine (HS.out _ g1).mono ?_
        rintro e w2 ⟨rfl, g2⟩
        go_wp2_with fail
        refine (sseed_no _ _ HN.out).mono ?_
        rintro e w' ⟨rfl, rfl⟩
        go_wp2_with fail
        go_ret
        exact ⟨ret_bool HV.out.symm, g1.trans g2⟩

def soOk (ps : List (Int × Int)) (ss : List (Int × Int × Nat × Int)) (s i : Int) : Bool := caOk ps ss s && decide (0 ≤ i ∧ i ≤ 1000000)
/-- What a snapshot is. -/
def so (ps : List (Int × Int)) (ss : List (Int × Int × Nat × Int)) (t : Nat) (s i : Int) : Nat → Nat × Nat := fun k => plus (cs ps ss i k ss.length) (nse s i k t)
/-- What a function answers. -/
def Sno (F : Nat) (ps : List (Int × Int)) (ss : List (Int × Int × Nat × Int)) (t : Nat) (s i : Int) (n : Nat) (ok : Bool) : Prop :=
  ∀ (A A' : Option Addr) (c c' B : Nat) (w : World), ps.length ≤ 9223372036854775807 → ss.length ≤ 9223372036854775807 → Rd w B A (ps.length * 2) (pcell ps) → Rd w B A' (ss.length * 4) (scell ss) → B ≤ w.heap.size →
    Calls Try.prog F #[.slice A ps.length c, .slice A' ss.length c', .float .f32 t, .int .i64 s, .int .i64 i] w fun e w' => ∃ A'' c'' l, e = .returned (.tuple #[.slice A'' n c'', .bool ok]) ∧ Cn l n (so ps ss t s i) ∧
      w'.ownsRow w.heap.size 36 1 (.slice A'' n c'') n (lst (ccell l) n) ∧ w.grownBy w' none
theorem so_no {F : Nat} {args : Array Value} {G : Nat → Nat × Nat} {w : World} {k : Nat} {ok : Bool} (hok : ok = false)
    (h : Calls Try.prog F args w fun e w' => e = .returned (.tuple #[.slice none 0 0, .bool false]) ∧ w.grownBy w' none) :
    Calls Try.prog F args w fun e w' => ∃ A'' c'' l, e = .returned (.tuple #[.slice A'' (if ok = true then k else 0) c'', .bool ok]) ∧ Cn l (if ok = true then k else 0) G ∧
      w'.ownsRow w.heap.size 36 1 (.slice A'' (if ok = true then k else 0) c'') (if ok = true then k else 0) (lst (ccell l) (if ok = true then k else 0)) ∧ w.grownBy w' none := by
  subst hok
  refine h.mono ?_
  rintro e w' ⟨rfl, hg⟩
  exact ⟨none, 0, [], rfl, ⟨rfl, fun k hk => absurd hk (by simp)⟩, World.ownsRow_nil _ _ _ _, hg⟩
theorem caOk_of {ps : List (Int × Int)} {ss : List (Int × Int × Nat × Int)} {s : Int} (h : caOk ps ss s = true) : vp ps = true ∧ vs ss = true ∧ 0 ≤ s ∧ s ≤ 2147483647 := by
  unfold caOk at h
  rw [Bool.and_eq_true, Bool.and_eq_true] at h
  exact ⟨h.1.1, h.1.2, of_decide_eq_true h.2⟩

set_option maxHeartbeats 800000 in
theorem snap_i (ps : List (Int × Int)) (ss : List (Int × Int × Nat × Int)) (t : Nat) (s i : Int) : Sno 45 ps ss t s i (if soOk ps ss s i = true then ps.length else 0) (soOk ps ss s i) := by
  intro A A' c c' B w hm hm' hr hr' hB
  have HC0 := can_i A A' c c' B ps ss s w hm hm' hr hr' hB
  cases hc : caOk ps ss s
  · refine so_no (by unfold soOk; rw [hc]; rfl) ?_
    rw [hc] at HC0
    have HC := Lib.hid HC0
    clear HC0 hr hr' hc
    go_enter Try.func45, Try.ntmps45
    go_wp2_with fail
    refine HC.out.mono ?_
    rintro e w1 ⟨rfl, g1⟩
    go_wp2_with fail
    go_ret2
    exact ⟨rfl, g1⟩
  · by_cases hi : 0 ≤ i ∧ i ≤ 1000000
    · have hok : soOk ps ss s i = true := by unfold soOk; rw [hc, decide_eq_true hi]; rfl
      rw [hok, if_pos rfl]
      rw [hc] at HC0
      obtain ⟨v1, v2, s0, s1⟩ := caOk_of hc
      obtain ⟨i0, i1⟩ := hi
      have HC := Lib.hid HC0
      have HSH := Lib.hid (fun (w1 : World) (g : w.grownBy w1 none) => shot_i A A' c c' B ps ss t s i w1 v1 v2 s0 s1 i0 i1 (hr.kept0 g hB) (hr'.kept0 g hB) (Nat.le_trans hB g.size))
      clear HC0 hr hr' hc hok v1 v2 s0 s1
      go_enter Try.func45, Try.ntmps45
      go_wp2_with fail
      refine HC.out.mono ?_
      rintro e w1 ⟨rfl, g1⟩
      go_wp2_with fail
      refine (index_yes _ _ i0 i1).mono ?_
      rintro e w' ⟨rfl, rfl⟩
      go_wp2_with fail
      refine (HSH.out _ g1).mono ?_
      rintro e w2 ⟨A2, c2, l, rfl, hl, ho, g2⟩
      have HL := Lib.hid hl
      have HO := Lib.hid (own_mono ho g1.size)
      have HG := Lib.hid (g1.trans g2)
      clear hl ho g1 g2
      go_wp2_with fail
      go_ret2
      exact ⟨_, _, _, rfl, HL.out, HO.out, HG.out⟩
    · refine so_no (by unfold soOk; rw [hc, decide_eq_false hi]; rfl) ?_
      rw [hc] at HC0
      have HC := Lib.hid HC0
      have HN := Lib.hid (show i < 0 ∨ 1000000 < i by omega)
      clear HC0 hr hr' hc hi
      go_enter Try.func45, Try.ntmps45
      go_wp2_with fail
      refine HC.out.mono ?_
      rintro e w1 ⟨rfl, g1⟩
      go_wp2_with fail
      refine (index_no _ _ HN.out).mono ?_
      rintro e w' ⟨rfl, rfl⟩
      go_wp2_with fail
      go_ret2
      exact ⟨rfl, g1⟩

set_option maxHeartbeats 800000 in
theorem snap_s (ps : List (Int × Int)) (ss : List (Int × Int × Nat × Int)) (t : Nat) (s i : Int) : Sno 43 ps ss t s i (if soOk ps ss s i = true then ps.length else 0) (soOk ps ss s i) := by
  intro A A' c c' B w hm hm' hr hr' hB
  have HC0 := can_s A A' c c' B ps ss s w hm hm' hr hr' hB
  cases hc : caOk ps ss s
  · refine so_no (by unfold soOk; rw [hc]; rfl) ?_
    rw [hc] at HC0
    have HC := Lib.hid HC0
    clear HC0 hr hr' hc
    go_enter Try.func43, Try.ntmps43
    go_wp2_with fail
    refine HC.out.mono ?_
    rintro e w1 ⟨rfl, g1⟩
    go_wp2_with fail
    go_ret2
    exact ⟨rfl, g1⟩
  · by_cases hi : 0 ≤ i ∧ i ≤ 1000000
    · have hok : soOk ps ss s i = true := by unfold soOk; rw [hc, decide_eq_true hi]; rfl
      rw [hok, if_pos rfl]
      rw [hc] at HC0
      obtain ⟨v1, v2, s0, s1⟩ := caOk_of hc
      obtain ⟨i0, i1⟩ := hi
      have HC := Lib.hid HC0
      have HSH := Lib.hid (fun (w1 : World) (g : w.grownBy w1 none) => shot_s A A' c c' B ps ss t s i w1 v1 v2 s0 s1 i0 i1 (hr.kept0 g hB) (hr'.kept0 g hB) (Nat.le_trans hB g.size))
      clear HC0 hr hr' hc hok v1 v2 s0 s1
      go_enter Try.func43, Try.ntmps43
      go_wp2_with fail
      refine HC.out.mono ?_
      rintro e w1 ⟨rfl, g1⟩
      go_wp2_with fail
      refine (sindex_yes _ _ i0 i1).mono ?_
      rintro e w' ⟨rfl, rfl⟩
      go_wp2_with fail
      refine (HSH.out _ g1).mono ?_
      rintro e w2 ⟨A2, c2, l, rfl, hl, ho, g2⟩
      have HL := Lib.hid hl
      have HO := Lib.hid (own_mono ho g1.size)
      have HG := Lib.hid (g1.trans g2)
      clear hl ho g1 g2
      go_wp2_with fail
      go_ret2
      exact ⟨_, _, _, rfl, HL.out, HO.out, HG.out⟩
    · refine so_no (by unfold soOk; rw [hc, decide_eq_false hi]; rfl) ?_
      rw [hc] at HC0
      have HC := Lib.hid HC0
      have HN := Lib.hid (show i < 0 ∨ 1000000 < i by omega)
      clear HC0 hr hr' hc hi
      go_enter Try.func43, Try.ntmps43
      go_wp2_with fail
      refine HC.out.mono ?_
      rintro e w1 ⟨rfl, g1⟩
      go_wp2_with fail
      refine (sindex_no _ _ HN.out).mono ?_
      rintro e w' ⟨rfl, rfl⟩
      go_wp2_with fail
      go_ret2
      exact ⟨rfl, g1⟩

end Go.Proofs.Ytabbfpjngbiohaa.snap
