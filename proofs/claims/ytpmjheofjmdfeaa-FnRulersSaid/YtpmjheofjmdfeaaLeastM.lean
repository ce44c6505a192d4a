/- leastMarks by the program. -/
import Derived.Test.YtpmjheofjmdfeaaRows
import Derived.Test.YtpmjheofjmdfeaaSlc
import Derived.Test.YtpmjheofjmdfeaaSmall
import Derived.Test.YtpmjheofjmdfeaaListI
import Derived.Test.YtpmjheofjmdfeaaSearch
import Derived.Test.YtpmjheofjmdfeaaExt
import Derived.WalkKit
import Derived.ProofKit
import Derived.OpenShut
import Derived.ShutString
import Derived.ChangeOld
import Derived.Below
import Derived.Lib.Hide
import Derived.BigQuiet
import Derived.Deep.QuietTactic
import Derived.WalkLawsBesides
import Derived.Outline
import Derived.RangeFuncBox
import Derived.Deep.QuietTactic
import Derived.BigQuiet
import Derived.Deep.LoopGhost
import Derived.Deep.RegionWith
namespace Go.Proofs.Ytpmjheofjmdfeaa.leastM
open Go.ChangeShapes Go.WideShapes Go.ChangeAt Go.RowKit
open Go.ChangeMaps (open_string shut_string)
set_option linter.unusedVariables false
open Go Go.RowKit
open Go.Proofs.Ytpmjheofjmdfeaa.slc Go.Proofs.Ytpmjheofjmdfeaa.small Go.Proofs.Ytpmjheofjmdfeaa.listI Go.Proofs.Ytpmjheofjmdfeaa.search Go.Proofs.Ytpmjheofjmdfeaa.ext

attribute [local go_sem] run_store_func run_store_slice
theorem good0 {last : Int} (h : 0 ≤ last) : GoodM last [0] := ⟨by simp, by simp, fun x hx => by rw [List.mem_singleton.1 hx]; omega⟩
/-- The world in which the search begins. -/
def LW (w : World) (cnt : Nat) (last : Int) (gw : Nat) (lw : Array Value) : World :=
  (((((w.alloc (.cells #[.int .i64 (cnt : Int)] 3)).alloc (.cells #[.int .i64 last] 2)).alloc (.cells #[.func (.func gw) #[] lw] 29)).alloc (.cells #[.int .i64 0] 2)).alloc (.cells #[.slice (some ⟨w.heap.size + 1 + 1 + 1, 0, none⟩) 1 1] 24)).alloc (.cells #[exF (w.heap.size + 1 + 1) (w.heap.size + 1 + 1 + 1 + 1) w.heap.size (w.heap.size + 1) (w.heap.size + 1 + 1 + 1 + 1 + 1)] 223)
theorem lw_size (w : World) (cnt : Nat) (last : Int) (gw : Nat) (lw : Array Value) : (LW w cnt last gw lw).heap.size = w.heap.size + 1 + 1 + 1 + 1 + 1 + 1 := by simp [LW]
theorem lw_grown (w : World) (cnt : Nat) (last : Int) (gw : Nat) (lw : Array Value) : w.grownBy (LW w cnt last gw lw) none :=
  (((((World.grownBy_alloc _ _ none).trans (World.grownBy_alloc _ _ none)).trans (World.grownBy_alloc _ _ none)).trans (World.grownBy_alloc _ _ none)).trans (World.grownBy_alloc _ _ none)).trans (World.grownBy_alloc _ _ none)
theorem lw_st (w : World) (cnt : Nat) (last : Int) (gw : Nat) (lw : Array Value) : ExSt (LW w cnt last gw lw) (w.heap.size + 1 + 1 + 1) (w.heap.size + 1 + 1) (w.heap.size + 1 + 1 + 1 + 1) w.heap.size (w.heap.size + 1) (w.heap.size + 1 + 1 + 1 + 1 + 1) gw lw (cnt : Int) last [0] := by
  unfold LW
  generalize hA : w.alloc (.cells #[.int .i64 (cnt : Int)] 3) = wA
  have b1 : Boxed wA w.heap.size 3 (.int .i64 (cnt : Int)) := by rw [← hA]; exact Boxed.new w _ _
  have s1 : wA.heap.size = w.heap.size + 1 := by rw [← hA, World.size_alloc]
  rw [← s1]
  clear hA
  generalize hB : wA.alloc (.cells #[.int .i64 last] 2) = wB
  have b2 : Boxed wB wA.heap.size 2 (.int .i64 last) := by rw [← hB]; exact Boxed.new wA _ _
  have b1 : Boxed wB w.heap.size 3 (.int .i64 (cnt : Int)) := by rw [← hB]; exact b1.alloc _
  have s2 : wB.heap.size = wA.heap.size + 1 := by rw [← hB, World.size_alloc]
  rw [← s2]
  clear hB
  generalize hC : wB.alloc (.cells #[.func (.func gw) #[] lw] 29) = wC
  have b3 : Boxed wC wB.heap.size 29 (.func (.func gw) #[] lw) := by rw [← hC]; exact Boxed.new wB _ _
  have b1 : Boxed wC w.heap.size 3 (.int .i64 (cnt : Int)) := by rw [← hC]; exact b1.alloc _
  have b2 : Boxed wC wA.heap.size 2 (.int .i64 last) := by rw [← hC]; exact b2.alloc _
  have s3 : wC.heap.size = wB.heap.size + 1 := by rw [← hC, World.size_alloc]
  rw [← s3]
  clear hC
  generalize hD : wC.alloc (.cells #[.int .i64 0] 2) = wD
  have o4 : wD.ownsRow wC.heap.size 2 1 (.slice (some ⟨wC.heap.size, 0, none⟩) 1 1) 1 [.int .i64 0] := by rw [← hD]; exact World.ownsRow_lit (base := wC.heap.size) (e := 2) (size := 1) wC #[.int .i64 0] 1 (Nat.le_refl _) (by decide) rfl
  have b1 : Boxed wD w.heap.size 3 (.int .i64 (cnt : Int)) := by rw [← hD]; exact b1.alloc _
  have b2 : Boxed wD wA.heap.size 2 (.int .i64 last) := by rw [← hD]; exact b2.alloc _
  have b3 : Boxed wD wB.heap.size 29 (.func (.func gw) #[] lw) := by rw [← hD]; exact b3.alloc _
  have s4 : wD.heap.size = wC.heap.size + 1 := by rw [← hD, World.size_alloc]
  rw [← s4]
  clear hD
  generalize hE : wD.alloc (.cells #[.slice (some ⟨wC.heap.size, 0, none⟩) 1 1] 24) = wE
  have b5 : Boxed wE wD.heap.size 24 (.slice (some ⟨wC.heap.size, 0, none⟩) 1 1) := by rw [← hE]; exact Boxed.new wD _ _
  have o4 : wE.ownsRow wC.heap.size 2 1 (.slice (some ⟨wC.heap.size, 0, none⟩) 1 1) 1 [.int .i64 0] := by rw [← hE]; exact o4.alloc _
  have b1 : Boxed wE w.heap.size 3 (.int .i64 (cnt : Int)) := by rw [← hE]; exact b1.alloc _
  have b2 : Boxed wE wA.heap.size 2 (.int .i64 last) := by rw [← hE]; exact b2.alloc _
  have b3 : Boxed wE wB.heap.size 29 (.func (.func gw) #[] lw) := by rw [← hE]; exact b3.alloc _
  have s5 : wE.heap.size = wD.heap.size + 1 := by rw [← hE, World.size_alloc]
  rw [← s5]
  clear hE
  have b6 := Boxed.new wE 223 (exF wB.heap.size wD.heap.size w.heap.size wA.heap.size wE.heap.size)
  exact ⟨b3.alloc _, ⟨_, b5.alloc _, o4.alloc _⟩, b1.alloc _, b2.alloc _, b6⟩
set_option maxRecDepth 100000 in
set_option maxHeartbeats 2000000 in
theorem least_c (cnt gw : Nat) (lw : Array Value) (last : Int) (wB : List Int → Bool) (w : World) (h1 : 1 ≤ cnt) (h2 : cnt ≤ 16) (hlast : 0 ≤ last ∧ last ≤ 1000) (hw : Wanted w.heap.size w gw lw last wB) (eg : ∀ args w, (callFunc gw args).run Try.prog w = .ok (.enter gw args) w) :
    Calls Try.prog 117 #[.int .i64 (cnt : Int), .int .i64 last, .func (.func gw) #[] lw] w fun e W' => ∃ A c, e = .returned (.tuple #[.slice A ((di wB last (cnt - 1) [0]).getD []).length c, .bool (di wB last (cnt - 1) [0]).isSome]) ∧
      W'.ownsRow w.heap.size 2 1 (.slice A ((di wB last (cnt - 1) [0]).getD []).length c) ((di wB last (cnt - 1) [0]).getD []).length (ints ((di wB last (cnt - 1) [0]).getD [])) ∧ w.grownBy W' none := by
  have HE := Lib.hid (fun (W : World) => ext_c w.heap.size (w.heap.size + 1 + 1 + 1) (w.heap.size + 1 + 1) (w.heap.size + 1 + 1 + 1 + 1) w.heap.size (w.heap.size + 1) (w.heap.size + 1 + 1 + 1 + 1 + 1) gw lw w cnt last wB hlast h2 hw eg (by omega) (by omega) (by omega) (by omega) (by omega) (by omega) (by omega) (cnt - 1) [0] W (by simp; omega) (good0 hlast.1))
  clear hw
  generalize di wB last (cnt - 1) [0] = R at *
  go_enter Try.func117, Try.ntmps117
  go_wp2_with fail
  have HE2 := Lib.hid (HE.out (LW w cnt last gw lw) (lw_st w cnt last gw lw) (by rw [lw_size]; omega) (gb_below (lw_grown w cnt last gw lw)))
  have HG := Lib.hid (lw_grown w cnt last gw lw)
  have HSZ := Lib.hid (lw_size w cnt last gw lw)
  clear HE
  refine (show Calls _ _ _ (LW w cnt last gw lw) _ from HE2.out).mono ?_
  rintro e w6 ⟨rfl, ⟨sw, ⟨v, sm, so⟩, sc, sl, se⟩, hb6⟩
  have hgr : w.grownBy w6 none := gb_of_below ((gb_below HG.out).trans (hb6.mono (by omega)))
  obtain ⟨A, c, rfl⟩ := own_form so
  have cm := sm.cell
  have HF := Lib.hid (And.intro so hgr)
  clear sw sc sl se sm so hb6 hgr HE2
  cases R with
  | none =>
    go_wp2_with fail
    go_ret2
    exact ⟨none, 0, rfl, World.ownsRow_nil _ _ _ _, HF.out.2⟩
  | some r =>
    go_wp2_with fail
    go_ret2
    exact ⟨A, c, rfl, own_mono HF.out.1 (by omega), HF.out.2⟩

end Go.Proofs.Ytpmjheofjmdfeaa.leastM
