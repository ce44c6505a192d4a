/- Several snapshots, by the program and the model. -/
import Derived.Test.YtabbfpjngbiohaaRows
import Derived.Test.YtabbfpjngbiohaaSlc
import Derived.Test.YtabbfpjngbiohaaSmall
import Derived.Test.YtabbfpjngbiohaaOpens
import Derived.Test.YtabbfpjngbiohaaPlaces
import Derived.Test.YtabbfpjngbiohaaPlaceSet
import Derived.Test.YtabbfpjngbiohaaSteps
import Derived.Test.YtabbfpjngbiohaaFloats
import Derived.Test.YtabbfpjngbiohaaRound
import Derived.Test.YtabbfpjngbiohaaValues
import Derived.Test.YtabbfpjngbiohaaConv
import Derived.Test.YtabbfpjngbiohaaFWalk
import Derived.Test.YtabbfpjngbiohaaFinWalk
import Derived.Test.YtabbfpjngbiohaaRoot
import Derived.Test.YtabbfpjngbiohaaFloat2
import Derived.Test.YtabbfpjngbiohaaFloat3
import Derived.Test.YtabbfpjngbiohaaPhase
import Derived.Test.YtabbfpjngbiohaaSine
import Derived.Test.YtabbfpjngbiohaaPhasor
import Derived.Test.YtabbfpjngbiohaaListC
import Derived.Test.YtabbfpjngbiohaaListCC
import Derived.Test.YtabbfpjngbiohaaSteerNum
import Derived.Test.YtabbfpjngbiohaaSineIn
import Derived.Test.YtabbfpjngbiohaaPolyNum
import Derived.Test.YtabbfpjngbiohaaPolyW
import Derived.Test.YtabbfpjngbiohaaGPoly
import Derived.Test.YtabbfpjngbiohaaGNum
import Derived.Test.YtabbfpjngbiohaaRq
import Derived.Test.YtabbfpjngbiohaaPowW
import Derived.Test.YtabbfpjngbiohaaTwinNum
import Derived.Test.YtabbfpjngbiohaaPhDef
import Derived.Test.YtabbfpjngbiohaaPhTabA
import Derived.Test.YtabbfpjngbiohaaPhTabB
import Derived.Test.YtabbfpjngbiohaaPhTabC
import Derived.Test.YtabbfpjngbiohaaPhTabD
import Derived.Test.YtabbfpjngbiohaaPhVal
import Derived.Test.YtabbfpjngbiohaaPhMath
import Derived.Test.YtabbfpjngbiohaaPhPhi
import Derived.Test.YtabbfpjngbiohaaSteerR
import Derived.Test.YtabbfpjngbiohaaMulAny
import Derived.Test.YtabbfpjngbiohaaFitsAny
import Derived.Test.YtabbfpjngbiohaaSeeds
import Derived.Test.YtabbfpjngbiohaaSymbol
import Derived.Test.YtabbfpjngbiohaaNoise
import Derived.Test.YtabbfpjngbiohaaSources
import Derived.Test.YtabbfpjngbiohaaListSrc
import Derived.Test.YtabbfpjngbiohaaSrcs
import Derived.Test.YtabbfpjngbiohaaSteering
import Derived.Test.YtabbfpjngbiohaaShot
import Derived.Test.YtabbfpjngbiohaaShotS
import Derived.Test.YtabbfpjngbiohaaSnap
import Derived.Test.YtabbfpjngbiohaaNest
import Derived.Test.YtabbfpjngbiohaaNestL
import Derived.WalkKit
import Derived.ProofKit
import Derived.OpenShut
import Derived.ShutString
import Derived.ChangeOld
import Derived.Below
import Derived.Lib.Hide
import Derived.BigQuiet
import Derived.Deep.QuietTactic
import Derived.WalkLawsBesides
import Derived.Outline
import Derived.Deep.QuietTactic
import Derived.BigQuiet
import Derived.Deep.LoopGhost
import Derived.Deep.RegionHeld3
import Derived.Deep.RegionWith
import Derived.Deep.RegionLaw
import Derived.Deep.AppendLies
import Derived.StillTailTactics
import Derived.Deep.OwnRows
namespace Go.Proofs.Ytabbfpjngbiohaa.snaps
open Go.ChangeShapes Go.WideShapes Go.ChangeAt Go.RowKit
open Go.ChangeMaps (open_string shut_string)
set_option linter.unusedVariables false
open Go Ieee Go.RowKit
open Go.Proofs.Ytabbfpjngbiohaa.slc Go.Proofs.Ytabbfpjngbiohaa.small Go.Proofs.Ytabbfpjngbiohaa.opens Go.Proofs.Ytabbfpjngbiohaa.places Go.Proofs.Ytabbfpjngbiohaa.placeSet Go.Proofs.Ytabbfpjngbiohaa.listC Go.Proofs.Ytabbfpjngbiohaa.listCC Go.Proofs.Ytabbfpjngbiohaa.seeds Go.Proofs.Ytabbfpjngbiohaa.sources Go.Proofs.Ytabbfpjngbiohaa.srcs Go.Proofs.Ytabbfpjngbiohaa.shot Go.Proofs.Ytabbfpjngbiohaa.shotS Go.Proofs.Ytabbfpjngbiohaa.snap Go.Proofs.Ytabbfpjngbiohaa.nest Go.Proofs.Ytabbfpjngbiohaa.nestL

attribute [local go_sem] run_store_slice

/-- What a function answers. -/
def Sns (F : Nat) (ps : List (Int × Int)) (ss : List (Int × Int × Nat × Int)) (t : Nat) (s f N : Int) (n m : Nat) (ok : Bool) : Prop :=
  ∀ (A A' : Option Addr) (c c' B : Nat) (w : World), ps.length ≤ 9223372036854775807 → ss.length ≤ 9223372036854775807 → Rd w B A (ps.length * 2) (pcell ps) → Rd w B A' (ss.length * 4) (scell ss) → B ≤ w.heap.size →
    Calls Try.prog F #[.slice A ps.length c, .slice A' ss.length c', .float .f32 t, .int .i64 s, .int .i64 f, .int .i64 N] w fun e w' => ∃ O d a c2, ∃ l : Nat → List (Nat × Nat), e = .returned (.tuple #[.slice O n d, .bool ok]) ∧ (∀ k, k < n → Cn (l k) m (so ps ss t s (f + (k : Int)))) ∧
      OwnN w' w.heap.size (.slice O n d) n m a c2 (fun k => ccell (l k)) ∧ w.grownBy w' none
theorem own_nil (w : World) (base : Nat) (hb : base ≤ w.heap.size) (l : Nat → List (Nat × Nat)) : OwnN w base (.slice none 0 0) 0 1 (fun _ => 0) (fun _ => 0) (fun i => ccell (l i)) :=
  ⟨⟨rfl, .inl ⟨rfl, rfl⟩⟩, fun k hk => absurd hk (by omega), fun j k hj => absurd hj (by omega), fun k hk => absurd hk (by omega)⟩
theorem sns_no {F : Nat} (ps : List (Int × Int)) (ss : List (Int × Int × Nat × Int)) (t : Nat) (s f : Int) {args : Array Value} {w : World}
    (h : Calls Try.prog F args w fun e w' => e = .returned (.tuple #[.slice none 0 0, .bool false]) ∧ w.grownBy w' none) :
    Calls Try.prog F args w fun e w' => ∃ O d a c2, ∃ l : Nat → List (Nat × Nat), e = .returned (.tuple #[.slice O 0 d, .bool false]) ∧ (∀ k, k < 0 → Cn (l k) 1 (so ps ss t s (f + (k : Int)))) ∧
      OwnN w' w.heap.size (.slice O 0 d) 0 1 a c2 (fun k => ccell (l k)) ∧ w.grownBy w' none := by
  refine h.mono ?_
  rintro e w' ⟨rfl, hg⟩
  exact ⟨none, 0, _, _, fun _ => [], rfl, fun k hk => absurd hk (Nat.not_lt_zero k), own_nil w' _ hg.size _, hg⟩

theorem own_addr {w : World} {B n : Nat} {t : TypeId} {A : Option Addr} {c : Nat} {cs : List Value} (h : w.ownsRow B t 1 (.slice A n c) n cs) (hn : 1 ≤ n) : ∃ g, A = some ⟨g, 0, none⟩ ∧ B ≤ g := by
  rcases h.2 with q | ⟨g, cc, cells, hv, hge, _⟩
  · simp at q; omega
  · injection hv with e
    exact ⟨g, e, hge⟩
theorem upd_cells (l : Nat → List (Nat × Nat)) (x : List (Nat × Nat)) (i : Nat) : (fun k => if k = i then ccell x else ccell (l k)) = fun k => ccell ((fun k => if k = i then x else l k) k) := by
  funext k
  dsimp only
  split <;> rfl
theorem upd_cn {n i : Nat} {f : Int} {G : Int → Nat → Nat × Nat} {l : Nat → List (Nat × Nat)} {x : List (Nat × Nat)} (h : ∀ k, k < i → Cn (l k) n (G (f + (k : Int)))) (hx : Cn x n (G (f + (i : Int)))) :
    ∀ k, k < i + 1 → Cn ((fun k => if k = i then x else l k) k) n (G (f + (k : Int))) := by
  intro k hk
  dsimp only
  by_cases e : k = i
  · subst e; rw [if_pos rfl]; exact hx
  · rw [if_neg e]; exact h k (by omega)

set_option maxHeartbeats 1600000 in
set_option maxRecDepth 100000 in
theorem snaps_i (ps : List (Int × Int)) (ss : List (Int × Int × Nat × Int)) (t : Nat) (s f : Int) (n : Nat) (hc : caOk ps ss s = true) (f0 : 0 ≤ f) (f1 : f ≤ 1000000) (hn : n ≤ 64) (hf : f + n ≤ 1000001) :
    Sns 53 ps ss t s f n n ps.length true := by
  intro A A' c c' B w hm hm' hr hr' hB
  obtain ⟨i0, hi0, hz0, hz1, hz2⟩ := info_parts infoR
  have HC0 := can_i A A' c c' B ps ss s w hm hm' hr hr' hB
  rw [hc] at HC0
  obtain ⟨v1, v2, s0, s1⟩ := caOk_of hc
  have hp1 := (vp_yes v1).1
  have HC := Lib.hid HC0
  have HSH := Lib.hid (fun (i : Int) (j0 : 0 ≤ i) (j1 : i ≤ 1000000) (w1 : World) (g : w.grownBy w1 none) => shot_i A A' c c' B ps ss t s i w1 v1 v2 s0 s1 j0 j1 (hr.kept0 g hB) (hr'.kept0 g hB) (Nat.le_trans hB g.size))
  have n0 : (0 : Int) ≤ n := by omega
  have n64 : (n : Int) ≤ 64 := by omega
  clear HC0 hr hr' hc v1 v2
  go_enter Try.func53, Try.ntmps53
  go_wp2_with fail
  refine HC.out.mono ?_
  rintro e w1 ⟨rfl, g1⟩
  go_wp2_with fail
  refine (index_yes _ _ f0 f1).mono ?_
  rintro e w' ⟨rfl, rfl⟩
  go_wp2_with fail
  refine (within_yes _ _ _ _ n0 n64).mono ?_
  rintro e w' ⟨rfl, rfl⟩
  go_wp2_with (at_make; refine wpList_make_full _ rfl _ _ _ rfl w1.heap.size 24 i0 (.slice none 0 0) 1 Try.underlying75 hi0 hz0 hz1 _ _ _ _ n rfl rfl rfl rfl (by rw [hz2]; omega) (by unfold maxLen; omega) (Nat.le_refl _) ?_; intro w2 hown hg2)
  have HI0 : LI w w1.heap.size w2 n ps.length (fun k => ccell ((fun _ => ([] : List (Nat × Nat))) k)) (fun _ => 0) (fun _ => 0) 0 := by
    refine ⟨?_, fun k hk => absurd hk (Nat.not_lt_zero k), fun j k hj => absurd hj (Nat.not_lt_zero j), g1.trans hg2, g1.size, ?_⟩
    · rw [Nat.mul_one, show (Value.slice none 0 0).cells = #[Value.slice none 0 0] from rfl, toList_madeCells_one, replicate_lst] at hown
      rw [show mix (orow (fun _ => 0) (fun _ => 0) ps.length) nv 0 = nv by funext k; simp [mix]]
      exact hown
    · exact (own_base hown w1.heap.size rfl).2
  have HII := Lib.hid HI0
  clear HI0 hown
  go_loopw [42] (fun i wr => ∃ k : Nat, k ≤ n ∧ i = .int .i64 k ∧ ∃ (l : Nat → List (Nat × Nat)) (a c : Nat → Nat), LI w w1.heap.size wr n ps.length (fun k => ccell (l k)) a c k ∧ ∀ j, j < k → Cn (l j) ps.length (so ps ss t s (f + (j : Int)))) (fun i _ => n - (intOf i).toNat)
  case atStart => exact ⟨0, Nat.zero_le _, rfl, _, _, _, HII.out, fun j hj => absurd hj (Nat.not_lt_zero j)⟩
  case round =>
    obtain ⟨k, hk, rfl, l, a, c, hI, hl⟩ := hrel
    by_cases hlt : k < n
    · have k0 : (0 : Int) ≤ k := by omega
      have k1 : (k : Int) < n := by omega
      have kn : f + (k : Int) ≤ 1000000 := by omega
      have kp : 0 ≤ f + (k : Int) := by omega
      have HI := Lib.hid hI
      have HL := Lib.hid hl
      have hsh := hI.outer.cellAt k (by omega)
      have hgw := hI.gb
      rw [lst_get _ _ _ hlt] at hsh
      clear hI hl
      go_wp2_with fail
      refine (HSH.out _ kp kn _ hgw).mono ?_
      rintro e w5 ⟨A2, c2, x, rfl, hx, ho, hg5⟩
      have hsh5 := hg5.cell hsh (by simp)
      have hfr5 := (own_kept0 HI.out.outer hg5).frozenAt k
      obtain ⟨g, rfl, hge⟩ := own_addr ho hp1
      have HN0 := HI.out.lay hlt hg5 ho
      rw [upd_cells] at HN0
      have HN := Lib.hid HN0
      have HL2 := Lib.hid (upd_cn (G := so ps ss t s) HL.out hx)
      clear HN0 hx ho hge hsh hgw hg5
      go_wp2_with fail
      go_roundw
      case rel => exact ⟨k + 1, by omega, by go_num, _, _, _, HN.out, HL2.out⟩
      case measure => simp [intOf]; omega
    · obtain rfl : k = n := by omega
      have HN := Lib.hid hI.own
      have HG := Lib.hid hI.gb
      have HL := Lib.hid hl
      clear hI hl
      go_wp2_with fail
      refine bodyPost_ret (v := .tuple #[.slice (some ⟨w1.heap.size, 0, none⟩) k k, .bool true]) (by simp [results, Try.results53]) rfl ?_
      exact ⟨_, _, rfl, a, c, l, HL.out, HN.out, HG.out⟩

theorem max_c (a b : Int) (w : World) : Calls Try.prog 134 #[.int .i64 a, .int .i64 b] w fun e w' => e = .returned (.int .i64 (if b < a then a else b)) ∧ w = w' := by
  by_cases h : b < a
  · rw [if_pos h]
    go_enter Try.func134, Try.ntmps134
    go_wp2
    go_ret
    exact ⟨rfl, rfl⟩
  · rw [if_neg h]
    have h' : a ≤ b := by omega
    go_enter Try.func134, Try.ntmps134
    go_wp2
    go_ret
    exact ⟨rfl, rfl⟩

set_option maxHeartbeats 1600000 in
set_option maxRecDepth 100000 in
theorem snaps_s (ps : List (Int × Int)) (ss : List (Int × Int × Nat × Int)) (t : Nat) (s f : Int) (n : Nat) (hc : caOk ps ss s = true) (f0 : 0 ≤ f) (f1 : f ≤ 1000000) (hn : n ≤ 64) (hf : f + n ≤ 1000001) :
    Sns 52 ps ss t s f n n ps.length true := by
  intro A A' c c' B w hm hm' hr hr' hB
  obtain ⟨i0, hi0, hz0, hz1, hz2⟩ := info_parts infoR
  have HC0 := can_s A A' c c' B ps ss s w hm hm' hr hr' hB
  rw [hc] at HC0
  obtain ⟨v1, v2, s0, s1⟩ := caOk_of hc
  have hp1 := (vp_yes v1).1
  have HC := Lib.hid HC0
  have HSH := Lib.hid (fun (i : Int) (j0 : 0 ≤ i) (j1 : i ≤ 1000000) (w1 : World) (g : w.grownBy w1 none) => shot_s A A' c c' B ps ss t s i w1 v1 v2 s0 s1 j0 j1 (hr.kept0 g hB) (hr'.kept0 g hB) (Nat.le_trans hB g.size))
  have n0 : (0 : Int) ≤ n := by omega
  have n64 : (n : Int) ≤ 64 := by omega
  obtain ⟨M, hM⟩ : ∃ M : Int, M = if (n : Int) - 1 < 0 then 0 else (n : Int) - 1 := ⟨_, rfl⟩
  have m0 : 0 ≤ M := by rw [hM]; split <;> omega
  have m1 : M ≤ 63 := by rw [hM]; split <;> omega
  have e0 : 0 ≤ f + M := by omega
  have e1 : f + M ≤ 1000000 := by rw [hM]; split <;> omega
  have HMX := Lib.hid (fun w => max_c 0 ((n : Int) - 1) w)
  rw [← hM] at HMX
  clear HC0 hr hr' hc v1 v2 hM
  go_enter Try.func52, Try.ntmps52
  go_wp2_with fail
  refine HC.out.mono ?_
  rintro e w1 ⟨rfl, g1⟩
  go_wp2_with fail
  refine (sindex_yes _ _ f0 f1).mono ?_
  rintro e w' ⟨rfl, rfl⟩
  go_wp2_with fail
  refine (in_yes _ _ _ _ n0 n64).mono ?_
  rintro e w' ⟨rfl, rfl⟩
  go_wp2_with fail
  refine (HMX.out _).mono ?_
  rintro e w' ⟨rfl, rfl⟩
  go_wp2_with fail
  refine (sindex_yes _ _ e0 e1).mono ?_
  rintro e w' ⟨rfl, rfl⟩
  go_wp2_with fail
  have HI0 : LS w (w1.alloc (.cells #[] 24)) w1.heap.size 0 ps.length (fun k => ccell ((fun _ => ([] : List (Nat × Nat))) k)) (fun _ => 0) (fun _ => 0) 0 := by
    have out := World.ownsRow_lit (base := w.heap.size) (e := 24) (size := 1) w1 #[] 0 g1.size (by decide) rfl
    exact ⟨out, fun k hk => absurd hk (Nat.not_lt_zero k), fun j k hj => absurd hj (Nat.not_lt_zero j), fun k hk => absurd hk (Nat.not_lt_zero k), g1.trans (World.grownBy_alloc w1 _ none)⟩
  have HII := Lib.hid HI0
  clear HI0
  go_loopw [14, 15] (fun v i wr => ∃ k : Nat, k ≤ n ∧ i = .int .i64 k ∧ ∃ (l : Nat → List (Nat × Nat)) (b cp : Nat) (a c : Nat → Nat), v = .slice (some ⟨b, 0, none⟩) k cp ∧ LS w wr b cp ps.length (fun k => ccell (l k)) a c k ∧ ∀ j, j < k → Cn (l j) ps.length (so ps ss t s (f + (j : Int)))) (fun _ i _ => n - (intOf i).toNat)
  case atStart => exact ⟨0, Nat.zero_le _, rfl, _, _, _, _, _, rfl, HII.out, fun j hj => absurd hj (Nat.not_lt_zero j)⟩
  case round =>
    obtain ⟨k, hk, rfl, l, b, cp, a, c, rfl, hI, hl⟩ := hrel
    by_cases hlt : k < n
    · have k0 : (0 : Int) ≤ k := by omega
      have k1 : (k : Int) < n := by omega
      have kn : f + (k : Int) ≤ 1000000 := by omega
      have kp : 0 ≤ f + (k : Int) := by omega
      have HI := Lib.hid hI
      have HL := Lib.hid hl
      have hgw := hI.gb
      clear hI hl
      go_wp2_with fail
      refine (HSH.out _ kp kn _ hgw).mono ?_
      rintro e w5 ⟨A2, c2, x, rfl, hx, ho, hg5⟩
      obtain ⟨g, rfl, hge⟩ := own_addr ho hp1
      have HL2 := Lib.hid (upd_cn (G := so ps ss t s) HL.out hx)
      have hal := World.grownBy_alloc w5 (.cells #[.slice (some ⟨g, 0, none⟩) ps.length c2] 24) none
      have HX := Lib.hid (hg5.trans hal)
      have HR := Lib.hid (own_kept0 ho hal)
      have hOX := own_kept0 HI.out.outer HX.out
      have hbase := Nat.le_trans hgw.size HX.out.size
      have q1 : k + 1 ≤ maxLen := by unfold maxLen; omega
      have q2 : (k + 1) * 24 ≤ 140737488355328 := by omega
      clear hx ho hal hg5 hge hgw
      go_wp2_with (at_builtin; refine wpList_append_lies _ rfl _ _ 75 rfl w.heap.size 24 i0 (.slice none 0 0) 1 24 Try.underlying75 hi0 hz0 hz1 hz2 rfl Nat.one_pos _ _ _ rfl hOX ⟨w5.heap.size, 0, none⟩ 1 1 [.slice (some ⟨g, 0, none⟩) ps.length c2] rfl rfl (World.news_of_block (heap_alloc_new _ _)) (one_slice _ _ _) Nat.one_pos q1 q2 hbase (w5.heap.size + 1) (by simp) ?_; intro gg cap w6 hown6 hgrow hat hltg)
      have HN0 := HI.out.step HX.out HR.out hown6 hgrow (hat.imp id (fun e => e.trans (by simp)))
      rw [upd_cells] at HN0
      have HN := Lib.hid HN0
      clear HN0 hown6 hgrow hat hOX hbase
      go_roundw
      case rel => exact ⟨k + 1, by omega, by go_num, _, _, _, _, _, rfl, HN.out, HL2.out⟩
      case measure => simp [intOf]; omega
    · obtain rfl : k = n := by omega
      have HN := Lib.hid hI.own
      have HG := Lib.hid hI.gb
      have HL := Lib.hid hl
      clear hI hl
      go_wp2_with fail
      refine bodyPost_ret (v := .tuple #[.slice (some ⟨b, 0, none⟩) k cp, .bool true]) (by simp [results, Try.results52]) rfl ?_
      exact ⟨_, _, rfl, a, c, l, HL.out, HN.out, HG.out⟩

set_option maxHeartbeats 800000 in
theorem snsno_i (A A' : Option Addr) (c c' B : Nat) (ps : List (Int × Int)) (ss : List (Int × Int × Nat × Int)) (t : Nat) (s f N : Int) (w : World) (hm : ps.length ≤ 9223372036854775807) (hm' : ss.length ≤ 9223372036854775807) (hr : Rd w B A (ps.length * 2) (pcell ps)) (hr' : Rd w B A' (ss.length * 4) (scell ss)) (hB : B ≤ w.heap.size)
    (h : ¬ (caOk ps ss s = true ∧ (0 ≤ f ∧ f ≤ 1000000) ∧ (0 ≤ N ∧ N ≤ 64) ∧ f + N ≤ 1000001)) :
    Calls Try.prog 53 #[.slice A ps.length c, .slice A' ss.length c', .float .f32 t, .int .i64 s, .int .i64 f, .int .i64 N] w fun e w' => e = .returned (.tuple #[.slice none 0 0, .bool false]) ∧ w.grownBy w' none := by
  have HC := Lib.hid (can_i A A' c c' B ps ss s w hm hm' hr hr' hB)
  clear hr hr'
  by_cases hc : caOk ps ss s = true
  case neg =>
    rw [show caOk ps ss s = false by simpa using hc] at HC
    clear h hc
    go_enter Try.func53, Try.ntmps53
    go_wp2_with fail
    refine HC.out.mono ?_
    rintro e w1 ⟨rfl, g1⟩
    go_wp2_with fail
    go_ret2
    exact ⟨rfl, g1⟩
  rw [hc] at HC
  by_cases hf : 0 ≤ f ∧ f ≤ 1000000
  case neg =>
    have HF := Lib.hid (show f < 0 ∨ 1000000 < f by omega)
    clear h hc hf
    go_enter Try.func53, Try.ntmps53
    go_wp2_with fail
    refine HC.out.mono ?_
    rintro e w1 ⟨rfl, g1⟩
    go_wp2_with fail
    refine (index_no _ _ HF.out).mono ?_
    rintro e w' ⟨rfl, rfl⟩
    go_wp2_with fail
    go_ret2
    exact ⟨rfl, g1⟩
  by_cases hN : 0 ≤ N ∧ N ≤ 64
  case neg =>
    have HN := Lib.hid (show N < 0 ∨ 64 < N by omega)
    obtain ⟨f0, f1⟩ := hf
    clear h hc hN
    go_enter Try.func53, Try.ntmps53
    go_wp2_with fail
    refine HC.out.mono ?_
    rintro e w1 ⟨rfl, g1⟩
    go_wp2_with fail
    refine (index_yes _ _ f0 f1).mono ?_
    rintro e w' ⟨rfl, rfl⟩
    go_wp2_with fail
    refine (within_no _ _ _ _ HN.out).mono ?_
    rintro e w' ⟨rfl, rfl⟩
    go_wp2_with fail
    go_ret2
    exact ⟨rfl, g1⟩
  have hg : 1000000 < f + N - 1 := by
    have : ¬ f + N ≤ 1000001 := fun hh => h ⟨hc, hf, hN, hh⟩
    omega
  obtain ⟨f0, f1⟩ := hf
  obtain ⟨n0, n1⟩ := hN
  clear h hc
  all_goals
    go_enter Try.func53, Try.ntmps53
    go_wp2_with fail
    refine HC.out.mono ?_
    rintro e w1 ⟨rfl, g1⟩
    go_wp2_with fail
    refine (index_yes _ _ f0 f1).mono ?_
    rintro e w' ⟨rfl, rfl⟩
    go_wp2_with fail
    refine (within_yes _ _ _ _ n0 n1).mono ?_
    rintro e w' ⟨rfl, rfl⟩
    go_wp2_with fail
    go_ret2
    exact ⟨rfl, g1⟩

set_option maxHeartbeats 800000 in
theorem snsno_s (A A' : Option Addr) (c c' B : Nat) (ps : List (Int × Int)) (ss : List (Int × Int × Nat × Int)) (t : Nat) (s f N : Int) (w : World) (hm : ps.length ≤ 9223372036854775807) (hm' : ss.length ≤ 9223372036854775807) (hr : Rd w B A (ps.length * 2) (pcell ps)) (hr' : Rd w B A' (ss.length * 4) (scell ss)) (hB : B ≤ w.heap.size)
    (h : ¬ (caOk ps ss s = true ∧ (0 ≤ f ∧ f ≤ 1000000) ∧ (0 ≤ N ∧ N ≤ 64) ∧ f + N ≤ 1000001)) :
    Calls Try.prog 52 #[.slice A ps.length c, .slice A' ss.length c', .float .f32 t, .int .i64 s, .int .i64 f, .int .i64 N] w fun e w' => e = .returned (.tuple #[.slice none 0 0, .bool false]) ∧ w.grownBy w' none := by
  have HC := Lib.hid (can_s A A' c c' B ps ss s w hm hm' hr hr' hB)
  clear hr hr'
  by_cases hc : caOk ps ss s = true
  case neg =>
    rw [show caOk ps ss s = false by simpa using hc] at HC
    clear h hc
    go_enter Try.func52, Try.ntmps52
    go_wp2_with fail
    refine HC.out.mono ?_
    rintro e w1 ⟨rfl, g1⟩
    go_wp2_with fail
    go_ret2
    exact ⟨rfl, g1⟩
  rw [hc] at HC
  by_cases hf : 0 ≤ f ∧ f ≤ 1000000
  case neg =>
    have HF := Lib.hid (show f < 0 ∨ 1000000 < f by omega)
    clear h hc hf
    go_enter Try.func52, Try.ntmps52
    go_wp2_with fail
    refine HC.out.mono ?_
    rintro e w1 ⟨rfl, g1⟩
    go_wp2_with fail
    refine (sindex_no _ _ HF.out).mono ?_
    rintro e w' ⟨rfl, rfl⟩
    go_wp2_with fail
    go_ret2
    exact ⟨rfl, g1⟩
  by_cases hN : 0 ≤ N ∧ N ≤ 64
  case neg =>
    have HN := Lib.hid (show N < 0 ∨ 64 < N by omega)
    obtain ⟨f0, f1⟩ := hf
    clear h hc hN
    go_enter Try.func52, Try.ntmps52
    go_wp2_with fail
    refine HC.out.mono ?_
    rintro e w1 ⟨rfl, g1⟩
    go_wp2_with fail
    refine (sindex_yes _ _ f0 f1).mono ?_
    rintro e w' ⟨rfl, rfl⟩
    go_wp2_with fail
    refine (in_no _ _ _ _ HN.out).mono ?_
    rintro e w' ⟨rfl, rfl⟩
    go_wp2_with fail
    go_ret2
    exact ⟨rfl, g1⟩
  have hg : ¬ f + N ≤ 1000001 := fun hh => h ⟨hc, hf, hN, hh⟩
  obtain ⟨f0, f1⟩ := hf
  obtain ⟨n0, n1⟩ := hN
  have HMX := Lib.hid (fun w => max_c 0 (N - 1) w)
  rw [if_neg (show ¬ N - 1 < 0 by omega)] at HMX
  have HE := Lib.hid (show f + (N - 1) < 0 ∨ 1000000 < f + (N - 1) by omega)
  clear h hc hg
  all_goals
    go_enter Try.func52, Try.ntmps52
    go_wp2_with fail
    refine HC.out.mono ?_
    rintro e w1 ⟨rfl, g1⟩
    go_wp2_with fail
    refine (sindex_yes _ _ f0 f1).mono ?_
    rintro e w' ⟨rfl, rfl⟩
    go_wp2_with fail
    refine (in_yes _ _ _ _ n0 n1).mono ?_
    rintro e w' ⟨rfl, rfl⟩
    go_wp2_with fail
    refine (HMX.out _).mono ?_
    rintro e w' ⟨rfl, rfl⟩
    go_wp2_with fail
    refine (sindex_no _ _ HE.out).mono ?_
    rintro e w' ⟨rfl, rfl⟩
    go_wp2_with fail
    go_ret2
    exact ⟨rfl, g1⟩

theorem both (ps : List (Int × Int)) (ss : List (Int × Int × Nat × Int)) (t : Nat) (s f N : Int) : ∃ n m ok, n ≤ 64 ∧ 1 ≤ m ∧ m ≤ 16 ∧ Sns 52 ps ss t s f N n m ok ∧ Sns 53 ps ss t s f N n m ok := by
  by_cases h : caOk ps ss s = true ∧ (0 ≤ f ∧ f ≤ 1000000) ∧ (0 ≤ N ∧ N ≤ 64) ∧ f + N ≤ 1000001
  · obtain ⟨hc, ⟨f0, f1⟩, ⟨n0, n1⟩, hf⟩ := h
    obtain ⟨n, rfl⟩ : ∃ n : Nat, N = (n : Int) := ⟨N.toNat, by omega⟩
    have hv := vp_yes (caOk_of hc).1
    exact ⟨n, ps.length, true, by omega, hv.1, hv.2.1, snaps_s ps ss t s f n hc f0 f1 (by omega) hf, snaps_i ps ss t s f n hc f0 f1 (by omega) hf⟩
  · exact ⟨0, 1, false, by omega, Nat.le_refl _, by omega, fun A A' c c' B w hm hm' hr hr' hB => sns_no ps ss t s f (snsno_s A A' c c' B ps ss t s f N w hm hm' hr hr' hB h), fun A A' c c' B w hm hm' hr hr' hB => sns_no ps ss t s f (snsno_i A A' c c' B ps ss t s f N w hm hm' hr hr' hB h)⟩

end Go.Proofs.Ytabbfpjngbiohaa.snaps
