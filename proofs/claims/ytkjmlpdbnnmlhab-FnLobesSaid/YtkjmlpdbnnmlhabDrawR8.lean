/- Draws of valid places from the bytes of an input. -/
import Derived.Test.YtkjmlpdbnnmlhabRows
import Derived.Test.YtkjmlpdbnnmlhabSlc
import Derived.Test.YtkjmlpdbnnmlhabSmall
import Derived.Test.YtkjmlpdbnnmlhabOpens
import Derived.Test.YtkjmlpdbnnmlhabPlaceAll
import Derived.Test.YtkjmlpdbnnmlhabR8
import Derived.Test.YtkjmlpdbnnmlhabSrc
import Derived.Test.YtkjmlpdbnnmlhabSrcW
import Derived.Test.YtkjmlpdbnnmlhabDrawOk
import Derived.WalkKit
import Derived.ProofKit
import Derived.OpenShut
import Derived.ShutString
import Derived.ChangeOld
import Derived.Below
import Derived.Lib.Hide
import Derived.BigQuiet
import Derived.Deep.QuietTactic
import Derived.WalkLawsBesides
import Derived.Outline
import Derived.Deep.LoopGhost
namespace Go.Proofs.Ytkjmlpdbnnmlhab.drawR8
open Go.ChangeShapes Go.WideShapes Go.ChangeAt Go.RowKit
open Go.ChangeMaps (open_string shut_string)
set_option linter.unusedVariables false
open Go Go.RowKit
open Go.Proofs.Ytkjmlpdbnnmlhab.slc Go.Proofs.Ytkjmlpdbnnmlhab.opens Go.Proofs.Ytkjmlpdbnnmlhab.places Go.Proofs.Ytkjmlpdbnnmlhab.listP Go.Proofs.Ytkjmlpdbnnmlhab.r8 Go.Proofs.Ytkjmlpdbnnmlhab.src Go.Proofs.Ytkjmlpdbnnmlhab.srcW Go.Proofs.Ytkjmlpdbnnmlhab.drawOk

theorem places_sm (A : Option Addr) (c : Nat) (z : List Int) (w : World) (hl : z.length ≤ 1048576) (hz : Byt z) (hr : Rd w w.heap.size A z.length (bt z)) :
    Calls Try.prog 67 #[.slice A z.length c] w fun e w' => ∃ (ps : List (Int × Int)) (A' : Option Addr) (c' : Nat), (vp ps = true ∧ ∀ p ∈ ps, Sm1 p) ∧ e = .returned (.slice A' ps.length c') ∧ w'.ownsRow w.heap.size 86 2 (.slice A' ps.length c') ps.length (lst (pcell ps) (ps.length * 2)) ∧ w.grownBy w' none := by
  go_enter Try.func67, Try.ntmps67
  go_wp2_with fail
  refine (from_is A z.length c w).mono ?_
  rintro e w0 ⟨rfl, hs0, hg0⟩
  have hd := draw_ok A c w.heap.size w.heap.size 0 z w0 (by omega) hl hz (hr.kept0 hg0 (Nat.le_refl _)) (Nat.le_refl _) hs0
  have HD := Lib.hid hd
  have hlt := hs0.lt
  clear hd
  go_wp2_with fail
  refine HD.out.mono ?_
  rintro e w1 ⟨ps, A1, c1, hv, rfl, ho, hg⟩
  go_wp2_with fail
  go_ret
  exact ⟨ps, A1, c1, hv, rfl, own_mono ho (Nat.le_of_lt hlt), gb_new hg0 hg (fun g e => by injection e with e; omega)⟩

theorem places_is (A : Option Addr) (c : Nat) (z : List Int) (w : World) (hl : z.length ≤ 1048576) (hz : Byt z) (hr : Rd w w.heap.size A z.length (bt z)) :
    Calls Try.prog 67 #[.slice A z.length c] w fun e w' => ∃ (ps : List (Int × Int)) (A' : Option Addr) (c' : Nat), vp ps = true ∧ e = .returned (.slice A' ps.length c') ∧ w'.ownsRow w.heap.size 86 2 (.slice A' ps.length c') ps.length (lst (pcell ps) (ps.length * 2)) ∧ w.grownBy w' none :=
  (places_sm A c z w hl hz hr).mono (by rintro e w' ⟨ps, A', c', hv, h⟩; exact ⟨ps, A', c', hv.1, h⟩)

/-- A block of the call's own that holds a direction. -/
def Dx (w : World) (b : Nat) (x y : Int) : Prop := w.ownsRow b 41 2 (.slice (some ⟨b, 0, none⟩) 1 1) 1 [.int .i64 x, .int .i64 y]
section
variable {w w' : World} {b : Nat} {x y : Int} {row : Option Nat}
theorem Dx.new (w : World) (x y : Int) : Dx (w.alloc (.cells #[.int .i64 x, .int .i64 y] 41)) w.heap.size x y := World.ownsRow_lit w #[.int .i64 x, .int .i64 y] 1 (Nat.le_refl _) (by decide) rfl
theorem Dx.facts (h : Dx w b x y) : w.cell? ⟨b, 0, none⟩ = some (.int .i64 x) ∧ w.cell? ⟨b, 1, none⟩ = some (.int .i64 y) ∧ w.frozen? ⟨b, 0, none⟩ = false ∧ w.frozen? ⟨b, 1, none⟩ = false :=
  ⟨h.cellAt 0 (by decide), h.cellAt 1 (by decide), h.frozenAt 0, h.frozenAt 1⟩
theorem Dx.put1 (h : Dx w b x y) (x' : Int) : Dx (w.setCell ⟨b, 0, none⟩ (.int .i64 x')) b x' y ∧ w.grownBy (w.setCell ⟨b, 0, none⟩ (.int .i64 x')) (some b) := h.stored 0 (.int .i64 x')
theorem Dx.put2 (h : Dx w b x y) (y' : Int) : Dx (w.setCell ⟨b, 1, none⟩ (.int .i64 y')) b x y' ∧ w.grownBy (w.setCell ⟨b, 1, none⟩ (.int .i64 y')) (some b) := h.stored 1 (.int .i64 y')
theorem Dx.keep (h : Dx w b x y) (hg : w.grownBy w' row) (hne : some b ≠ row) : Dx w' b x y := World.ownsRow.kept h hg (.inr (by simpa [Value.ownBlock] using hne))
theorem Dx.lt (h : Dx w b x y) : b < w.heap.size := World.block_lt_of_cell? w _ h.facts.1
end
theorem build_dir1 (w : World) (x : Int) : (Instr.build 41 #[(0, .int .i64 x)]).run Try.prog w = .ok (.agg #[.int .i64 x, .int .i64 0]) w := run_build w 41 _ _ (by kernel_rfl)
attribute [local go_sem] build_dir1
set_option maxHeartbeats 2000000 in
theorem direction_is (A : Option Addr) (c : Nat) (z : List Int) (w : World) (hl : z.length ≤ 1048576) (hz : Byt z) (hr : Rd w w.heap.size A z.length (bt z)) :
    Calls Try.prog 68 #[.slice A z.length c] w fun e w' => ∃ u v : Int, (-45 ≤ u ∧ u ≤ 45) ∧ (-45 ≤ v ∧ v ≤ 45) ∧ e = .returned (.agg #[.int .i64 u, .int .i64 v]) ∧ w.grownBy w' none := by
  have ga := World.grownBy_alloc w (.cells #[.int .i64 0, .int .i64 0] 41) none
  have da := Dx.new w 0 0
  obtain ⟨wa, hwa⟩ : ∃ wa, w.alloc (.cells #[.int .i64 0, .int .i64 0] 41) = wa := ⟨_, rfl⟩
  rw [hwa] at ga da
  have hra := hr.kept0 ga (Nat.le_refl _)
  have hfr := from_is A z.length c wa
  have HF := Lib.hid hfr
  have HA := Lib.hid hwa
  have HD := Lib.hid da
  clear hfr hwa da
  go_enter Try.func68, Try.ntmps68
  go_wp2_with fail
  rw [HA.out]
  refine HF.out.mono ?_
  rintro e w0 ⟨rfl, hs0, hg0⟩
  have hwa2 := HD.out.lt
  have d0 := HD.out.keep hg0 (by simp)
  have r0 := hra.kept0 hg0 (Nat.le_of_lt hwa2)
  have g0 := ga.trans hg0
  have hb0 := hs0.lt
  generalize hb : wa.heap.size = b at *
  have hp := pick_is A c w.heap.size b 0 z 91 w0 (by omega) hl hz r0 (by omega) hs0 (by decide) (by decide)
  have HP := Lib.hid hp
  clear hp HF HA HD hra ga hg0
  go_wp2_with fail
  refine HP.out.mono ?_
  rintro e w1 ⟨v1, v10, v11, rfl, s1, g1⟩
  have r1 := keepR r0 g1 (by omega) hb0
  have d1 := d0.keep g1 (by intro e; injection e with e; omega)
  have gg1 := gb_new g0 g1 (by intro q e; injection e with e; omega)
  have hb1 := s1.lt
  have ga := World.grownBy_alloc w1 (.cells #[.int .i64 (v1 - 45), .int .i64 0] 41) none
  have e1 := Dx.new w1 (v1 - 45) 0
  have s2 := s1.keep0 ga
  have r2 := r1.kept0 ga (by omega)
  have d2 := d1.keep ga (by simp)
  have gg2 := gg1.trans ga
  obtain ⟨w2, hw2⟩ : ∃ w2, w1.alloc (.cells #[.int .i64 (v1 - 45), .int .i64 0] 41) = w2 := ⟨_, rfl⟩
  rw [hw2] at e1 s2 r2 d2 gg2
  have hp := pick_is A c w.heap.size b 2 z 91 w2 (by omega) hl hz r2 (by omega) s2 (by decide) (by decide)
  have HP2 := Lib.hid hp
  have HW := Lib.hid hw2
  have HE := Lib.hid (And.intro e1 (And.intro d2 gg2))
  clear hp HP ga hw2 e1 d2 gg2 gg1 d1 r1 s1 r0 d0 g0 g1
  go_wp2_with fail
  rw [HW.out]
  refine HP2.out.mono ?_
  rintro e w3 ⟨v2, v20, v21, rfl, s3, g3⟩
  obtain ⟨e1, d2, gg2⟩ := HE.out
  have e3 := e1.keep g3 (by intro e; injection e with e; omega)
  have d3 := d2.keep g3 (by intro e; injection e with e; omega)
  have gg3 := gb_new gg2 g3 (by intro q e; injection e with e; omega)
  generalize hd1 : w1.heap.size = h1 at *
  generalize hr1 : w.heap.size = r at *
  have hne : ¬ h1 = r := by omega
  have hne' : ¬ r = h1 := by omega
  obtain ⟨cx, cy, fx, fy⟩ := e3.facts
  obtain ⟨px, py, qx, qy⟩ := d3.facts
  obtain ⟨e4, g4⟩ := e3.put2 (v2 - 45)
  have d4 := d3.keep g4 (by intro e; injection e with e; omega)
  obtain ⟨d5, g5⟩ := d4.put1 (v1 - 45)
  obtain ⟨d6, g6⟩ := d5.put2 (v2 - 45)
  have gg6 := gb_new (gb_new (gb_new gg3 g4 (by intro q e; injection e with e; omega)) g5 (by intro q e; injection e with e; omega)) g6 (by intro q e; injection e with e; omega)
  have HG := Lib.hid (And.intro gg6 d6.facts)
  clear HW HE HP2 gg6 d6 g6 d5 g5 d4 g4 e4 gg3 d3 e3 g3 s3 e1 d2 gg2 s2 r2
  go_wp2_with fail
  obtain ⟨hg6, c6, c7, _, _⟩ := HG.out
  exact bodyPost_ret (v := .agg #[.int .i64 (v1 - 45), .int .i64 (v2 - 45)]) (by simp [results, Try.results68, go_sem, c6, c7]) rfl ⟨v1 - 45, v2 - 45, by omega, by omega, rfl, hg6⟩

end Go.Proofs.Ytkjmlpdbnnmlhab.drawR8
