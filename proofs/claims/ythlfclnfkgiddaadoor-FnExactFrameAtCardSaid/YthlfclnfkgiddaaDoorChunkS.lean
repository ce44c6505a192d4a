/- The parts that slices.Chunk gives. -/
import Derived.Test.YthlfclnfkgiddaaDoorRows
import Derived.Test.YthlfclnfkgiddaaDoorSlc
import Derived.Test.YthlfclnfkgiddaaDoorSmall
import Derived.Test.YthlfclnfkgiddaaDoorWordS
import Derived.WalkKit
import Derived.ProofKit
import Derived.OpenShut
import Derived.ShutString
import Derived.ChangeOld
import Derived.Below
import Derived.Lib.Hide
import Derived.BigQuiet
import Derived.Deep.QuietTactic
import Derived.WalkLawsBesides
import Derived.Outline
import Derived.RangeFuncNested
import Derived.RangeFuncKeeps
import Derived.RangeFuncLeaves
import Derived.RangeFuncCalls
import Derived.Shelf.Abstract
import Derived.Shelf.RegionOpen
import Derived.TacticsIn
import Derived.RegionIn
import Derived.OwnWalkIn
import Derived.TacticsInMore
import Derived.LoopNIn
import Derived.LoopIn
import Derived.RangeFuncBox
import Derived.Deep.QuietTactic
import Derived.BigQuiet
import Derived.Deep.LoopGhost
import Derived.Deep.RegionHeld3
import Derived.Deep.RegionWith
import Derived.Laws.ComplexArith
import Derived.StillTailTactics
namespace Go.Proofs.YthlfclnfkgiddaaDoor.chunkS
open Go.ChangeShapes Go.WideShapes Go.ChangeAt Go.RowKit
open Go.ChangeMaps (open_string shut_string)
set_option linter.unusedVariables false
open Go Go.RowKit Go.Shelf
open Go.Proofs.YthlfclnfkgiddaaDoor.slc Go.Proofs.YthlfclnfkgiddaaDoor.small Go.Proofs.YthlfclnfkgiddaaDoor.wordS

attribute [local go_sem] Oper.semAt_some
/-- The cells of D1 and D2 are as they were. -/
def KD2 (D1 D2 : Nat) (A B : World) : Prop := ∀ b v, (b = D1 ∨ b = D2) → A.cell? ⟨b, 0, none⟩ = some v → B.cell? ⟨b, 0, none⟩ = some v
theorem wrap_id (x : Int) (h : 0 ≤ x) (h2 : x ≤ 100000) : wrap64 x = x := by
  unfold wrap64
  omega
set_option maxRecDepth 100000 in
set_option maxHeartbeats 2000000 in
theorem chunk8 (A : Addr) (m c n q D1 D2 : Nat) (w : World) (hn : 1 ≤ n) (hq : q * n = m) (hm : m ≤ 100000) (hc : m ≤ c) (hq2 : q < 1000) (h1 : w.cell? ⟨D1, 0, none⟩ = some (.slice (some A) m c)) (h2 : w.cell? ⟨D2, 0, none⟩ = some (.int .i64 (n : Int))) :
    SeqStopsK Fence.wide 4 Tryd.prog 164 #[.pointer (some ⟨D1, 0, none⟩), .pointer (some ⟨D2, 0, none⟩)] (fun i : Fin q => #[.slice (some (A.add (n * i.1))) n n]) (KD2 D1 D2) (fun xs => xs.map Fin.val = List.range q) (fun _ => True) 1000 w := fun l J Jx W hW hA _ hY hJ0 => by
  have hD1 : W.cell? ⟨D1, 0, none⟩ = some (.slice (some A) m c) := (hW.cell (p := ⟨D1, 0, none⟩) (World.block_lt_of_cell? w _ h1)).trans h1
  have hD2 : W.cell? ⟨D2, 0, none⟩ = some (.int .i64 (n : Int)) := (hW.cell (p := ⟨D2, 0, none⟩) (World.block_lt_of_cell? w _ h2)).trans h2
  have HJ := Lib.hid (fun (K : List (Fin q)) (A A' : World) (h : J K A) (g : A.grownBy A' none) => hA K A A' none h g (fun r e => by cases e))
  have HYY := Lib.hid hY
  have HQ := Lib.hid hq
  clear hY hA h1 h2 hW hq
  refine callsIn_of_wp Tryd.func164 rfl trivial ?_ rfl
  simp only [Tryd.ntmps164, List.size_toArray, List.length_cons, List.length_nil, Nat.reduceAdd, Nat.reduceSub, Array.replicate_succ, Array.replicate_zero, List.push_toArray, List.append_toArray, List.nil_append, List.cons_append]
  have hmx : Tryd.prog.follows .mixedOrders = true := by kernel_rfl
  gi_wp2
  gi_loopw [4] (fun v wr => ∃ i x : Nat, i ≤ q ∧ n * i = x ∧ v = .int .i64 (x : Int) ∧ wr.cell? ⟨D1, 0, none⟩ = some (.slice (some A) m c) ∧ wr.cell? ⟨D2, 0, none⟩ = some (.int .i64 (n : Int)) ∧ ∃ K : List (Fin q), K.map Fin.val = List.range i ∧ J K wr) (fun v _ => m + 1 - (intOf v).toNat)
  case atStart => exact ⟨0, 0, Nat.zero_le _, Nat.mul_zero _, rfl, hD1, hD2, [], rfl, hJ0⟩
  case round =>
    obtain ⟨i, x, hi, hx, rfl, e1, e2, K, hK, hJ⟩ := hrel
    by_cases hlt : i < q
    · have hb : x + n ≤ m := by
        rw [← HQ.out, ← hx, ← Nat.mul_succ, Nat.mul_comm q n]
        exact Nat.mul_le_mul_left _ hlt
      have HJI := Lib.hid hJ
      have HKK := Lib.hid hK
      have hkl : K.length = i := by rw [← List.length_map (f := Fin.val), hK, List.length_range]
      have HKL := Lib.hid hkl
      clear hK hkl
      have x0 : (0 : Int) ≤ (x : Int) := by omega
      have x1 : (x : Int) < (m : Int) := by omega
      have x2 : (x : Int) ≤ (m : Int) := by omega
      have b1 : n ≤ m - x := by omega
      have b2 : ¬ m - x < n := by omega
      have b3 : ¬ ((m - x : Nat) : Int) < (n : Int) := by omega
      have b4 : ¬ c = x := by omega
      have b5 : (n : Int) ≤ ((m - x : Nat) : Int) := by omega
      clear hJ
      gi_wp2
      gi_big_quiet_th_o (fail)
      have hJ2 := HJ.out _ _ _ HJI.out (gb_drewN wr nq none)
      have e1' : (wr.drewN nq).cell? ⟨D1, 0, none⟩ = some (.slice (some A) m c) := e1
      have e2' : (wr.drewN nq).cell? ⟨D2, 0, none⟩ = some (.int .i64 (n : Int)) := e2
      clear e1 e2
      generalize wr.drewN nq = w2 at *
      obtain ⟨fn, tmps, assign, body, hy, hR⟩ := HYY.out K ⟨i, hlt⟩ w2 hJ2 (by rw [HKL.out]; omega)
      rw [hx] at hy
      obtain ⟨y, hy2⟩ : ∃ y, x + n = y := ⟨_, rfl⟩
      have b6 : y - x = n := by omega
      have b7 : ¬ y = x := by omega
      have b8 : (x : Int) + (n : Int) = (y : Int) := by omega
      have b9 : (y : Int) ≤ (c : Int) := by omega
      have b10 : (x : Int) ≤ (y : Int) := by omega
      have b11 : (0 : Int) ≤ (y : Int) := by omega
      have b12 : (y : Int) ≤ 100000 := by omega
      have HY2 := Lib.hid hy2
      clear hy2
      have HX := Lib.hid hx
      clear hx
      gi_wp2
      refine hR.mono ?_
      rintro e W3 (⟨rfl, hJ4, hk4⟩ | ⟨rfl, hx4⟩)
      · have d1 := hk4 _ _ (.inl rfl) e1'
        have d2 := hk4 _ _ (.inr rfl) e2'
        have HJ4 := Lib.hid hJ4
        clear hJ4 hk4 e1' e2'
        gi_wp2
        go_roundw
        case rel => exact ⟨i + 1, y, by omega, by rw [Nat.mul_succ, HX.out, HY2.out], rfl, d1, d2, K ++ [⟨i, hlt⟩], by rw [List.map_append, HKK.out, List.range_succ]; rfl, HJ4.out⟩
        case measure => simp [intOf]; omega
      · gi_wp2
        refine bodyPost_ret (results_none rfl _ _ _) rfl ?_
        exact ⟨⟨_, rfl⟩, .inr ⟨_, trivial, hx4⟩⟩
    · obtain rfl : i = q := by omega
      have hxm : x = m := by rw [← hx, ← HQ.out, Nat.mul_comm]
      subst hxm
      have HJF := Lib.hid hJ
      clear hJ
      gi_wp2
      go_end0
      exact ⟨⟨_, rfl⟩, .inl ⟨K, hK, HJF.out⟩⟩
set_option maxRecDepth 100000 in
set_option maxHeartbeats 2000000 in
theorem chunk64 (A : Addr) (m c n q D1 D2 : Nat) (w : World) (hn : 1 ≤ n) (hq : q * n = m) (hm : m ≤ 100000) (hc : m ≤ c) (hq2 : q < 1000) (h1 : w.cell? ⟨D1, 0, none⟩ = some (.slice (some A) m c)) (h2 : w.cell? ⟨D2, 0, none⟩ = some (.int .i64 (n : Int))) :
    SeqStopsK Fence.wide 4 Tryd.prog 165 #[.pointer (some ⟨D1, 0, none⟩), .pointer (some ⟨D2, 0, none⟩)] (fun i : Fin q => #[.slice (some (A.add (n * i.1))) n n]) (KD2 D1 D2) (fun xs => xs.map Fin.val = List.range q) (fun _ => True) 1000 w := fun l J Jx W hW hA _ hY hJ0 => by
  have hD1 : W.cell? ⟨D1, 0, none⟩ = some (.slice (some A) m c) := (hW.cell (p := ⟨D1, 0, none⟩) (World.block_lt_of_cell? w _ h1)).trans h1
  have hD2 : W.cell? ⟨D2, 0, none⟩ = some (.int .i64 (n : Int)) := (hW.cell (p := ⟨D2, 0, none⟩) (World.block_lt_of_cell? w _ h2)).trans h2
  have HJ := Lib.hid (fun (K : List (Fin q)) (A A' : World) (h : J K A) (g : A.grownBy A' none) => hA K A A' none h g (fun r e => by cases e))
  have HYY := Lib.hid hY
  have HQ := Lib.hid hq
  clear hY hA h1 h2 hW hq
  refine callsIn_of_wp Tryd.func165 rfl trivial ?_ rfl
  simp only [Tryd.ntmps165, List.size_toArray, List.length_cons, List.length_nil, Nat.reduceAdd, Nat.reduceSub, Array.replicate_succ, Array.replicate_zero, List.push_toArray, List.append_toArray, List.nil_append, List.cons_append]
  have hmx : Tryd.prog.follows .mixedOrders = true := by kernel_rfl
  gi_wp2
  gi_loopw [4] (fun v wr => ∃ i x : Nat, i ≤ q ∧ n * i = x ∧ v = .int .i64 (x : Int) ∧ wr.cell? ⟨D1, 0, none⟩ = some (.slice (some A) m c) ∧ wr.cell? ⟨D2, 0, none⟩ = some (.int .i64 (n : Int)) ∧ ∃ K : List (Fin q), K.map Fin.val = List.range i ∧ J K wr) (fun v _ => m + 1 - (intOf v).toNat)
  case atStart => exact ⟨0, 0, Nat.zero_le _, Nat.mul_zero _, rfl, hD1, hD2, [], rfl, hJ0⟩
  case round =>
    obtain ⟨i, x, hi, hx, rfl, e1, e2, K, hK, hJ⟩ := hrel
    by_cases hlt : i < q
    · have hb : x + n ≤ m := by
        rw [← HQ.out, ← hx, ← Nat.mul_succ, Nat.mul_comm q n]
        exact Nat.mul_le_mul_left _ hlt
      have HJI := Lib.hid hJ
      have HKK := Lib.hid hK
      have hkl : K.length = i := by rw [← List.length_map (f := Fin.val), hK, List.length_range]
      have HKL := Lib.hid hkl
      clear hK hkl
      have x0 : (0 : Int) ≤ (x : Int) := by omega
      have x1 : (x : Int) < (m : Int) := by omega
      have x2 : (x : Int) ≤ (m : Int) := by omega
      have b1 : n ≤ m - x := by omega
      have b2 : ¬ m - x < n := by omega
      have b3 : ¬ ((m - x : Nat) : Int) < (n : Int) := by omega
      have b4 : ¬ c = x := by omega
      have b5 : (n : Int) ≤ ((m - x : Nat) : Int) := by omega
      clear hJ
      gi_wp2
      gi_big_quiet_th_o (fail)
      have hJ2 := HJ.out _ _ _ HJI.out (gb_drewN wr nq none)
      have e1' : (wr.drewN nq).cell? ⟨D1, 0, none⟩ = some (.slice (some A) m c) := e1
      have e2' : (wr.drewN nq).cell? ⟨D2, 0, none⟩ = some (.int .i64 (n : Int)) := e2
      clear e1 e2
      generalize wr.drewN nq = w2 at *
      obtain ⟨fn, tmps, assign, body, hy, hR⟩ := HYY.out K ⟨i, hlt⟩ w2 hJ2 (by rw [HKL.out]; omega)
      rw [hx] at hy
      obtain ⟨y, hy2⟩ : ∃ y, x + n = y := ⟨_, rfl⟩
      have b6 : y - x = n := by omega
      have b7 : ¬ y = x := by omega
      have b8 : (x : Int) + (n : Int) = (y : Int) := by omega
      have b9 : (y : Int) ≤ (c : Int) := by omega
      have b10 : (x : Int) ≤ (y : Int) := by omega
      have b11 : (0 : Int) ≤ (y : Int) := by omega
      have b12 : (y : Int) ≤ 100000 := by omega
      have HY2 := Lib.hid hy2
      clear hy2
      have HX := Lib.hid hx
      clear hx
      gi_wp2
      refine hR.mono ?_
      rintro e W3 (⟨rfl, hJ4, hk4⟩ | ⟨rfl, hx4⟩)
      · have d1 := hk4 _ _ (.inl rfl) e1'
        have d2 := hk4 _ _ (.inr rfl) e2'
        have HJ4 := Lib.hid hJ4
        clear hJ4 hk4 e1' e2'
        gi_wp2
        go_roundw
        case rel => exact ⟨i + 1, y, by omega, by rw [Nat.mul_succ, HX.out, HY2.out], rfl, d1, d2, K ++ [⟨i, hlt⟩], by rw [List.map_append, HKK.out, List.range_succ]; rfl, HJ4.out⟩
        case measure => simp [intOf]; omega
      · gi_wp2
        refine bodyPost_ret (results_none rfl _ _ _) rfl ?_
        exact ⟨⟨_, rfl⟩, .inr ⟨_, trivial, hx4⟩⟩
    · obtain rfl : i = q := by omega
      have hxm : x = m := by rw [← hx, ← HQ.out, Nat.mul_comm]
      subst hxm
      have HJF := Lib.hid hJ
      clear hJ
      gi_wp2
      go_end0
      exact ⟨⟨_, rfl⟩, .inl ⟨K, hK, HJF.out⟩⟩

theorem chunk_c8 (A : Option Addr) (m c n : Nat) (w : World) (hn : 1 ≤ n) :
    Calls Tryd.prog 143 #[.slice A m c, .int .i64 (n : Int)] w fun e w' => e = .returned (.func (.func 164) #[] #[.pointer (some ⟨w.heap.size, 0, none⟩), .pointer (some ⟨w.heap.size + 1, 0, none⟩)]) ∧ w' = (w.alloc (.cells #[.slice A m c] 22)).alloc (.cells #[.int .i64 (n : Int)] 3) := by
  have h1 : ¬ (n : Int) < 1 := by omega
  go_enter Tryd.func143, Tryd.ntmps143
  go_wp2
  go_ret
  exact ⟨rfl, rfl⟩
theorem chunk_c64 (A : Option Addr) (m c n : Nat) (w : World) (hn : 1 ≤ n) :
    Calls Tryd.prog 145 #[.slice A m c, .int .i64 (n : Int)] w fun e w' => e = .returned (.func (.func 165) #[] #[.pointer (some ⟨w.heap.size, 0, none⟩), .pointer (some ⟨w.heap.size + 1, 0, none⟩)]) ∧ w' = (w.alloc (.cells #[.slice A m c] 57)).alloc (.cells #[.int .i64 (n : Int)] 3) := by
  have h1 : ¬ (n : Int) < 1 := by omega
  go_enter Tryd.func145, Tryd.ntmps145
  go_wp2
  go_ret
  exact ⟨rfl, rfl⟩

end Go.Proofs.YthlfclnfkgiddaaDoor.chunkS
