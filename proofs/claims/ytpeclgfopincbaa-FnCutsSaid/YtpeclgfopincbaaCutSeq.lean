/- The directions that cutDirections gives. -/
import Derived.Test.YtpeclgfopincbaaRows
import Derived.Test.YtpeclgfopincbaaSlc
import Derived.Test.YtpeclgfopincbaaSmall
import Derived.Test.YtpeclgfopincbaaOpens
import Derived.Test.YtpeclgfopincbaaFloatAll
import Derived.Test.YtpeclgfopincbaaFWalk
import Derived.Test.YtpeclgfopincbaaFinWalk
import Derived.Test.YtpeclgfopincbaaRoot
import Derived.Test.YtpeclgfopincbaaFlAll
import Derived.Test.YtpeclgfopincbaaPhasor
import Derived.Test.YtpeclgfopincbaaListC
import Derived.Test.YtpeclgfopincbaaSteerNum
import Derived.Test.YtpeclgfopincbaaSineIn
import Derived.Test.YtpeclgfopincbaaPolyNum
import Derived.Test.YtpeclgfopincbaaPolyW
import Derived.Test.YtpeclgfopincbaaGAll
import Derived.Test.YtpeclgfopincbaaPowW
import Derived.Test.YtpeclgfopincbaaSkyNum
import Derived.Test.YtpeclgfopincbaaSkySeq
import Derived.WalkKit
import Derived.ProofKit
import Derived.OpenShut
import Derived.ShutString
import Derived.ChangeOld
import Derived.Below
import Derived.Lib.Hide
import Derived.BigQuiet
import Derived.Deep.QuietTactic
import Derived.WalkLawsBesides
import Derived.Outline
import Derived.RangeFuncKeeps
import Derived.RangeFuncLeaves
import Derived.RangeFuncCalls
import Derived.RangeFuncBox
import Derived.Shelf.Abstract
import Derived.Shelf.RegionOpen
import Derived.TacticsIn
import Derived.RegionIn
import Derived.OwnWalkIn
import Derived.TacticsInMore
import Derived.LoopNIn
import Derived.LoopIn
import Derived.Deep.LoopGhost
namespace Go.Proofs.Ytpeclgfopincbaa.cutSeq
open Go.ChangeShapes Go.WideShapes Go.ChangeAt Go.RowKit
open Go.ChangeMaps (open_string shut_string)
set_option linter.unusedVariables false
open Go Ieee Go.RowKit Go.Shelf
open Go.Proofs.Ytpeclgfopincbaa.slc Go.Proofs.Ytpeclgfopincbaa.small Go.Proofs.Ytpeclgfopincbaa.skyNum Go.Proofs.Ytpeclgfopincbaa.skySeq

attribute [local go_sem] Oper.semAt_some
/-- The directions of a cut. -/
def cutL (a v : Int) (k : Nat) : List (Int × Int) := (List.range k).map fun (i : Nat) => (a + (i : Int), v)
theorem cutL_len (a v : Int) (k : Nat) : (cutL a v k).length = k := by simp [cutL]
theorem cutL_succ (a v : Int) (k : Nat) : cutL a v (k + 1) = cutL a v k ++ [(a + (k : Int), v)] := by simp [cutL, List.range_succ]
/-- Cells of three blocks are as they were. -/
def K3 (D1 D2 D3 : Nat) (A B : World) : Prop := KD D1 A B ∧ KD D2 A B ∧ KD D3 A B
set_option maxRecDepth 100000 in
set_option maxHeartbeats 2000000 in
theorem cut_seq (a v : Int) (m D1 D2 D3 : Nat) (w : World) (hm : m ≤ 128) (ha : -64 ≤ a) (hb : a + (m : Int) ≤ 64) (hd : ∀ i : Nat, i ≤ m → dirB (a + (i : Int)) v = true)
    (h1 : w.cell? ⟨D1, 0, none⟩ = some (.int .i64 a)) (h2 : w.cell? ⟨D2, 0, none⟩ = some (.int .i64 (a + (m : Int)))) (h3 : w.cell? ⟨D3, 0, none⟩ = some (.int .i64 v)) :
    SeqStopsK Fence.wide 4 Try.prog 179 #[.pointer (some ⟨D1, 0, none⟩), .pointer (some ⟨D2, 0, none⟩), .pointer (some ⟨D3, 0, none⟩)] (fun d : Dir => #[encd d.1]) (K3 D1 D2 D3) (fun xs => xs.map Subtype.val = cutL a v (m + 1)) (fun _ => True) 200 w := fun l J Jx W hW hA _ hY hJ0 => by
  have hc1 : W.cell? ⟨D1, 0, none⟩ = some (.int .i64 a) := (hW.cell (p := ⟨D1, 0, none⟩) (World.block_lt_of_cell? w _ h1)).trans h1
  have hc2 : W.cell? ⟨D2, 0, none⟩ = some (.int .i64 (a + (m : Int))) := (hW.cell (p := ⟨D2, 0, none⟩) (World.block_lt_of_cell? w _ h2)).trans h2
  have hc3 : W.cell? ⟨D3, 0, none⟩ = some (.int .i64 v) := (hW.cell (p := ⟨D3, 0, none⟩) (World.block_lt_of_cell? w _ h3)).trans h3
  have HYY := Lib.hid hY
  have HD := Lib.hid hd
  clear hY hd hW h1 h2 h3
  generalize hE : a + (m : Int) = E at *
  refine callsIn_of_wp Try.func179 rfl trivial ?_ rfl
  simp only [Try.ntmps179, List.size_toArray, List.length_cons, List.length_nil, Nat.reduceAdd, Nat.reduceSub, Array.replicate_succ, Array.replicate_zero, List.push_toArray, List.append_toArray, List.nil_append, List.cons_append]
  have hmx : Try.prog.follows .mixedOrders = true := by kernel_rfl
  gi_wp2
  gi_loopw [5] (fun u wr => ∃ i : Nat, i ≤ m + 1 ∧ u = .int .i64 (a + (i : Int)) ∧ wr.cell? ⟨D2, 0, none⟩ = some (.int .i64 E) ∧ wr.cell? ⟨D3, 0, none⟩ = some (.int .i64 v) ∧ wr.cell? ⟨D1, 0, none⟩ = some (.int .i64 a) ∧ ∃ K : List Dir, K.map Subtype.val = cutL a v i ∧ J K wr) (fun u _ => (1000 - intOf u).toNat)
  case atStart => exact ⟨0, by omega, by simp, hc2, hc3, hc1, [], rfl, hJ0⟩
  case round =>
    obtain ⟨i, hi, rfl, q2, q3, q1, K, hK, hJ⟩ := hrel
    by_cases hlt : i < m + 1
    · have hdi := HD.out i (by omega)
      have hlen : K.length < 200 := by
        have := congrArg List.length hK
        rw [List.length_map, cutL_len] at this
        omega
      have HK := Lib.hid hK
      have HJ := Lib.hid hJ
      clear hK hJ
      generalize hX : a + (i : Int) = X at *
      have x0 : X ≤ E := by omega
      have x1 : -64 ≤ X := by omega
      have x2 : X ≤ 64 := by omega
      obtain ⟨fn, tmps, assign, body, hy, hR⟩ := HYY.out K ⟨(X, v), hdi⟩ wr HJ.out hlen
      unfold encd at hy
      gi_wp2
      refine hR.mono ?_
      rintro e W3 (⟨rfl, hJ4, hk1, hk2, hk3⟩ | ⟨rfl, hx4⟩)
      · have q1' := hk1 _ q1
        have q2' := hk2 _ q2
        have q3' := hk3 _ q3
        have HJ4 := Lib.hid hJ4
        clear hJ4 hk1 hk2 hk3
        gi_wp2
        go_roundw
        case rel => exact ⟨i + 1, by omega, by rw [← hX]; exact congrArg _ (by omega), q2', q3', q1', K ++ [⟨(X, v), hdi⟩], by rw [List.map_append, HK.out, cutL_succ, hX]; rfl, HJ4.out⟩
        case measure => simp [intOf]; omega
      · gi_wp2
        refine bodyPost_ret (results_none rfl _ _ _) rfl ?_
        exact ⟨⟨_, rfl⟩, .inr ⟨_, trivial, hx4⟩⟩
    · obtain rfl : i = m + 1 := by omega
      have HJF := Lib.hid (And.intro hK hJ)
      clear hJ hK
      have x0 : E < a + ((m + 1 : Nat) : Int) := by omega
      generalize a + ((m + 1 : Nat) : Int) = X at *
      gi_wp2
      go_end0
      exact ⟨⟨_, rfl⟩, .inl ⟨K, HJF.out⟩⟩

set_option maxHeartbeats 1000000 in
theorem cut_dirs (v a b : Int) (w : World) (hab : a ≤ b) (h1 : dirB a v = true) (h2 : dirB b v = true) :
    Calls Try.prog 103 #[.int .i64 v, .int .i64 a, .int .i64 b] w fun e w' => ∃ D1 D2 D3, e = .returned (.tuple #[.func (.func 179) #[] #[.pointer (some ⟨D1, 0, none⟩), .pointer (some ⟨D2, 0, none⟩), .pointer (some ⟨D3, 0, none⟩)], .bool true]) ∧
      w.heap.size ≤ D1 ∧ w.heap.size ≤ D2 ∧ w.heap.size ≤ D3 ∧ w'.cell? ⟨D1, 0, none⟩ = some (.int .i64 a) ∧ w'.cell? ⟨D2, 0, none⟩ = some (.int .i64 b) ∧ w'.cell? ⟨D3, 0, none⟩ = some (.int .i64 v) ∧ w.grownBy w' none := by
  have HD := Lib.hid (fun (u : Int) (h : dirB u v = true) (w1 : World) => (show Calls Try.prog 100 #[.agg #[.int .i64 u, .int .i64 v]] w1 fun e w' => e = .returned (.bool true) ∧ w1.grownBy w' none from h ▸ dir_impl u v w1))
  have b1 := Boxed.new w 2 (.int .i64 v)
  have b2 := Boxed.new (w.alloc (.cells #[.int .i64 v] 2)) 2 (.int .i64 a)
  have b3 := Boxed.new ((w.alloc (.cells #[.int .i64 v] 2)).alloc (.cells #[.int .i64 a] 2)) 2 (.int .i64 b)
  rw [World.size_alloc] at b2
  rw [World.size_alloc, World.size_alloc] at b3
  have b1' := (b1.alloc (.cells #[.int .i64 a] 2)).alloc (.cells #[.int .i64 b] 2)
  have b2' := b2.alloc (.cells #[.int .i64 b] 2)
  have g0 := ((World.grownBy_alloc w (.cells #[.int .i64 v] 2) none).trans (World.grownBy_alloc _ (.cells #[.int .i64 a] 2) none)).trans (World.grownBy_alloc _ (.cells #[.int .i64 b] 2) none)
  clear b1 b2
  go_enter Try.func103, Try.ntmps103
  go_wp2_with fail
  generalize hW0 : ((w.alloc (.cells #[.int .i64 v] 2)).alloc (.cells #[.int .i64 a] 2)).alloc (.cells #[.int .i64 b] 2) = W0 at *
  refine (HD.out a h1 _).mono ?_
  rintro e w1 ⟨rfl, g1⟩
  have c1 := b1'.kept g1 (by simp)
  have c2 := b2'.kept g1 (by simp)
  have c3 := b3.kept g1 (by simp)
  have d1 := c1.cell
  have d2 := c2.cell
  have d3 := c3.cell
  go_wp2_with fail
  refine (HD.out b h2 _).mono ?_
  rintro e w2 ⟨rfl, g2⟩
  have e1 := (c1.kept g2 (by simp)).cell
  have e2 := (c2.kept g2 (by simp)).cell
  have e3 := (c3.kept g2 (by simp)).cell
  have G := g0.trans (g1.trans g2)
  clear c1 c2 c3 d1 d2 d3 b1' b2' b3 g0 g1 g2
  go_wp2_with fail
  go_ret2
  exact ⟨_, _, _, rfl, by omega, by omega, by omega, e2, e3, e1, G⟩

end Go.Proofs.Ytpeclgfopincbaa.cutSeq
