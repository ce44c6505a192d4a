/- A list as an array, by the program. -/
import Derived.Test.YtdanlghaiekeaaaRows
import Derived.Test.YtdanlghaiekeaaaSlc
import Derived.Test.YtdanlghaiekeaaaSmall
import Derived.Test.YtdanlghaiekeaaaFloats
import Derived.Test.YtdanlghaiekeaaaRound
import Derived.Test.YtdanlghaiekeaaaValues
import Derived.Test.YtdanlghaiekeaaaConv
import Derived.Test.YtdanlghaiekeaaaFWalk
import Derived.Test.YtdanlghaiekeaaaFinWalk
import Derived.Test.YtdanlghaiekeaaaFloat2
import Derived.Test.YtdanlghaiekeaaaFloat3
import Derived.Test.YtdanlghaiekeaaaPhase
import Derived.Test.YtdanlghaiekeaaaSine
import Derived.Test.YtdanlghaiekeaaaPhasor
import Derived.Test.YtdanlghaiekeaaaListC
import Derived.Test.YtdanlghaiekeaaaSteerNum
import Derived.Test.YtdanlghaiekeaaaSineIn
import Derived.Test.YtdanlghaiekeaaaPolyNum
import Derived.Test.YtdanlghaiekeaaaPolyW
import Derived.Test.YtdanlghaiekeaaaPoly2
import Derived.Test.YtdanlghaiekeaaaConcatC
import Derived.WalkKit
import Derived.ProofKit
import Derived.OpenShut
import Derived.ShutString
import Derived.ChangeOld
import Derived.Below
import Derived.Lib.Hide
import Derived.BigQuiet
import Derived.Deep.QuietTactic
import Derived.WalkLawsBesides
import Derived.Outline
import Derived.Deep.LoopGhost
import Derived.Deep.QuietTactic
import Derived.BigQuiet
import Derived.Deep.RegionHeld3
import Derived.Deep.MidRow
import Derived.Deep.WholeRow
import Derived.StillTailTactics
import Derived.Laws.ComplexArith
namespace Go.Proofs.Ytdanlghaiekeaaa.polyA
open Go.ChangeShapes Go.WideShapes Go.ChangeAt Go.RowKit
open Go.ChangeMaps (open_string shut_string)
set_option linter.unusedVariables false
open Go Ieee Go.RowKit
open Go.Proofs.Ytdanlghaiekeaaa.slc Go.Proofs.Ytdanlghaiekeaaa.small Go.Proofs.Ytdanlghaiekeaaa.floats Go.Proofs.Ytdanlghaiekeaaa.round Go.Proofs.Ytdanlghaiekeaaa.values Go.Proofs.Ytdanlghaiekeaaa.conv Go.Proofs.Ytdanlghaiekeaaa.fWalk Go.Proofs.Ytdanlghaiekeaaa.phase Go.Proofs.Ytdanlghaiekeaaa.sine Go.Proofs.Ytdanlghaiekeaaa.phasor Go.Proofs.Ytdanlghaiekeaaa.listC Go.Proofs.Ytdanlghaiekeaaa.sineIn Go.Proofs.Ytdanlghaiekeaaa.polyNum Go.Proofs.Ytdanlghaiekeaaa.polyW Go.Proofs.Ytdanlghaiekeaaa.poly2 Go.Proofs.Ytdanlghaiekeaaa.concatC

def z0 : Nat → Value := fun _ => .complex .f32 0 0
def Zz : Array Value := (lst z0 16).toArray
/-- The numbers of l, and zeros behind. -/
def padC (l : List (Nat × Nat)) : Array Value := (lst (ccell l) 16).toArray
/-- A block of the call's own that holds an array of 16 numbers. -/
def Ar (w : World) (b : Nat) (f : Nat → Value) : Prop := w.ownsRow b 164 1 (.slice (some ⟨b, 0, none⟩) 16 16) 16 (lst f 16)
def over (xs : List Value) (o : Nat) : List Value → List Value
  | [] => xs
  | v :: r => over (xs.set o v) (o + 1) r
theorem set_all {base : Nat} {e : TypeId} {b n c : Nat} : ∀ (vs : List Value) (o : Nat) (w : World) (xs : List Value), w.ownsRow base e 1 (.slice (some ⟨b, 0, none⟩) n c) n xs →
    (w.setCells b o vs).ownsRow base e 1 (.slice (some ⟨b, 0, none⟩) n c) n (over xs o vs) ∧ w.grownBy (w.setCells b o vs) (some b)
  | [], _, w, _, h => ⟨h, World.grownBy.refl w _⟩
  | v :: r, o, w, xs, h => by
    obtain ⟨h1, h2⟩ := h.stored o v
    obtain ⟨h3, h4⟩ := set_all r (o + 1) _ _ h1
    exact ⟨h3, h2.trans h4⟩
theorem over_all (f g : Nat → Value) : over (lst f 16) 0 (lst g 16) = lst g 16 := rfl
section
variable {w w' : World} {b : Nat} {f : Nat → Value} {row : Option Nat}
theorem Ar.new (w : World) : Ar (w.alloc (.cells Zz 164)) w.heap.size z0 := World.ownsRow_lit w Zz 16 (Nat.le_refl _) (by decide) rfl
theorem Ar.keep (h : Ar w b f) (hg : w.grownBy w' row) (hne : some b ≠ row) : Ar w' b f := World.ownsRow.kept h hg (.inr (by simpa [Value.ownBlock] using hne))
theorem Ar.keep0 (h : Ar w b f) (hg : w.grownBy w' none) : Ar w' b f := h.keep hg (by simp)
theorem Ar.cell (h : Ar w b f) (j : Nat) (hj : j < 16) : w.cell? ⟨b, j, none⟩ = some (f j) := by
  have h1 := World.ownsRow.cellAt h j (by omega)
  rw [lst_get _ _ _ hj] at h1
  exact h1
theorem Ar.range (h : Ar w b f) : w.rangeAt b 0 (lst f 16) := fun j v hv => by
  have hj : j < 16 := by
    have := (List.getElem?_eq_some_iff.1 hv).1
    rwa [lst_len] at this
  rw [lst_get _ _ _ hj] at hv
  rw [Nat.zero_add, h.cell j hj]; exact hv
theorem Ar.there (h : Ar w b f) : w.there b 0 16 := fun j hj => by
  rw [Nat.zero_add]
  exact ⟨by rw [h.cell j hj]; rfl, World.ownsRow.frozenAt h j⟩
theorem Ar.put (h : Ar w b f) (g : Nat → Value) : Ar (w.setCells b 0 (lst g 16)) b g ∧ w.grownBy (w.setCells b 0 (lst g 16)) (some b) := by
  obtain ⟨h1, h2⟩ := set_all (lst g 16) 0 w _ h
  rw [over_all] at h1
  exact ⟨h1, h2⟩
theorem Ar.rd (h : Ar w b f) : Rd w w.heap.size (some ⟨b, 0, none⟩) 16 f := Rd.of_lst h rfl
end
theorem cat_pad (l : List (Nat × Nat)) : cat (ccell l) z0 l.length = ccell l := by
  funext j
  unfold cat
  split
  · rfl
  · rename_i h
    unfold ccell z0
    rw [show l.getD j (0, 0) = (0, 0) by simp [List.getD, show l.length ≤ j by omega]]
theorem cc_one (l : List (Nat × Nat)) (n : Nat) : ∀ u ∈ lst (ccell l) n, u.oneCell' = true := by
  intro u hu
  simp only [lst, List.mem_map] at hu
  obtain ⟨j, _, rfl⟩ := hu
  rfl
theorem z_one (n : Nat) : ∀ u ∈ lst z0 n, u.oneCell' = true := by
  intro u hu
  simp only [lst, List.mem_map] at hu
  obtain ⟨j, _, rfl⟩ := hu
  rfl
theorem infoA : (Try.prog.info? 164).map (·.size) = some 16 := by kernel_rfl
theorem und2 : Try.prog.underlying 164 = some (.array 16 30) := by kernel_rfl
theorem undA : ∃ d, Try.prog.underlying 164 = some d ∧ d.isRow = true := ⟨.array 16 30, by kernel_rfl, rfl⟩

theorem load_a (w : World) (b : Nat) (f : Nat → Value) (h : w.rangeAt b 0 (lst f 16)) : (Instr.loadAt 164 (.pointer (some ⟨b, 0, none⟩))).run Try.prog w = .ok (.agg (lst f 16).toArray) w := by
  obtain ⟨d, hu, hd⟩ := undA
  exact run_loadAt_mid (P := Try.prog) w b 0 164 (lst f 16) d h hu hd infoA
theorem arr_at (w : World) (ad : Addr) (n c : Nat) (h : 16 ≤ n) : (Instr.arrayAt 164 (.slice (some ad) n c)).run Try.prog w = .ok (.pointer (some ad)) w := by
  have hu : Try.prog.underlying 164 = some (.array 16 30) := by kernel_rfl
  simp [Instr.arrayAt, run_underlying hu, show ¬ n < 16 by omega]
theorem store_a (w : World) (b : Nat) (f g : Nat → Value) (h : Ar w b f) (h1 : ∀ u ∈ lst g 16, u.oneCell' = true) : (Instr.storeAt 164 (.pointer (some ⟨b, 0, none⟩)) (.agg (lst g 16).toArray)).run Try.prog w = .ok () (w.setCells b 0 (lst g 16)) :=
  run_storeAt_mid (P := Try.prog) w b 0 164 (lst g 16).toArray h.there infoA (all_oneCell_toArray h1)

set_option maxHeartbeats 2000000 in
set_option maxRecDepth 100000 in
theorem arr_impl (ad : Addr) (c B : Nat) (l : List (Nat × Nat)) (w : World) (hn : l.length ≤ 16) (hr : Rd w B (some ad) l.length (ccell l)) (hB : B ≤ w.heap.size) :
    Calls Try.prog 154 #[.slice (some ad) l.length c] w fun e w' => e = .returned (.agg (padC l)) ∧ w.grownBy w' none := by
  have gA := World.grownBy_alloc w (.cells Zz 164) none
  have gB := World.grownBy_alloc (w.alloc (.cells Zz 164)) (.cells Zz 164) none
  have gC := World.grownBy_alloc ((w.alloc (.cells Zz 164)).alloc (.cells Zz 164)) (.cells #[.slice (some ad) l.length c, .slice (some ⟨w.heap.size + 1, 0, none⟩) 16 16] 24) none
  have a1 := (Ar.new w).keep0 (gB.trans gC)
  have a2 := (Ar.new (w.alloc (.cells Zz 164))).keep0 gC
  obtain ⟨b0, b1⟩ := boxed2 (World.grownBy.refl (((w.alloc (.cells Zz 164)).alloc (.cells Zz 164)).alloc (.cells #[.slice (some ad) l.length c, .slice (some ⟨w.heap.size + 1, 0, none⟩) 16 16] 24)) none)
  have gABC := (gA.trans gB).trans gC
  have hrC := (hr.kept0 gABC hB).mono (Nat.le_trans hB gABC.size)
  simp only [World.size_alloc] at a2 b0 b1
  have hcat := concat2 ad ⟨w.heap.size + 1, 0, none⟩ l.length 16 c 16 (w.heap.size + 1 + 1) _ (ccell l) z0 _ (by omega) (cc_one l _) (z_one 16) b0 b1 (Nat.le_refl _) hrC a2.rd
  rw [cat_pad] at hcat
  have HCAT := Lib.hid hcat
  have HA1 := Lib.hid a1
  have HG := Lib.hid gABC
  clear hcat a1 a2 b0 b1 gA gB gC gABC hrC
  go_enter Try.func154, Try.ntmps154
  go_wp2_with fail
  refine HCAT.out.mono ?_
  rintro e w5 ⟨A5, c5, rfl, ho5, hg5⟩
  obtain ⟨g, cap, e, hgb, _⟩ := ho5.form (by omega)
  injection e with e1 e2 e3
  subst e1
  have A1 := HA1.out.keep0 hg5
  have g5 := HG.out.trans hg5
  have hrange : w5.rangeAt g 0 (lst (ccell l) 16) := fun j v hv => by
    have hj : j < 16 := by
      have := (List.getElem?_eq_some_iff.1 hv).1
      rwa [lst_len] at this
    have h1 := ho5.cellAt j (by omega)
    rw [lst_get _ _ _ (by omega)] at h1
    rw [lst_get _ _ _ hj] at hv
    rw [Nat.zero_add]
    exact h1.trans hv
  have harr : (Instr.arrayAt 164 (.slice (some ⟨g, 0, none⟩) (l.length + 16) cap)).run Try.prog w5 = .ok (.pointer (some ⟨g, 0, none⟩)) w5 := arr_at w5 _ _ cap (by omega)
  have HR := Lib.hid harr
  have HX := Lib.hid hrange
  clear ho5 hg5 harr hrange
  go_wp2_with fail
  rw [HR.out]
  simp only [Result.andThen_ok]
  rw [Oper.upon_value]
  refine (show _ from ‹∀ (a : Act) (w : World), wpList _ _ _ _ a w → _› _ _ ?_)
  refine wpList_load_mid rfl 164 _ rfl g 0 rfl (lst (ccell l) 16) _ HX.out und2 rfl infoA ?_
  refine wpList_store_mid rfl 164 _ _ rfl w.heap.size 0 (lst (ccell l) 16).toArray rfl rfl A1.there infoA (all_oneCell_toArray (cc_one l 16)) ?_
  obtain ⟨A2, g6⟩ := A1.put (ccell l)
  have g7 := gb_new g5 g6 (by intro g' e; injection e with e; omega)
  change wpList _ _ _ _ _ (w5.setCells w.heap.size 0 (lst (ccell l) 16))
  generalize w5.setCells w.heap.size 0 (lst (ccell l) 16) = w6 at A2 g6 g7 ⊢
  have hld : (loadVar 164 ⟨w.heap.size, 0, none⟩).run Try.prog w6 = .ok (.agg (padC l)) w6 := run_loadVar_mid (P := Try.prog) w6 w.heap.size 0 164 (lst (ccell l) 16) _ A2.range und2 rfl infoA
  have HL := Lib.hid hld
  clear hld
  go_wp2_with fail
  refine bodyPost_ret (v := .agg (padC l)) ?_ rfl ⟨rfl, g7⟩

  simp [results, Try.results154, Act.put, asAddr, HL.out]

end Go.Proofs.Ytdanlghaiekeaaa.polyA
