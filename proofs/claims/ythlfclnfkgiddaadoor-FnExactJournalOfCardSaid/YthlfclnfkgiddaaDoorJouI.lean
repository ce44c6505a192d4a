/- JournalOf, by the program. -/
import Derived.Test.YthlfclnfkgiddaaDoorRows
import Derived.Test.YthlfclnfkgiddaaDoorSlc
import Derived.Test.YthlfclnfkgiddaaDoorSmall
import Derived.Test.YthlfclnfkgiddaaDoorWordN
import Derived.Test.YthlfclnfkgiddaaDoorNumN
import Derived.Test.YthlfclnfkgiddaaDoorWordS
import Derived.Test.YthlfclnfkgiddaaDoorCheckC
import Derived.Test.YthlfclnfkgiddaaDoorDecNum
import Derived.Test.YthlfclnfkgiddaaDoorDec
import Derived.Test.YthlfclnfkgiddaaDoorFmt
import Derived.Test.YthlfclnfkgiddaaDoorDecI
import Derived.Test.YthlfclnfkgiddaaDoorTextNum
import Derived.Test.YthlfclnfkgiddaaDoorReadNum
import Derived.Test.YthlfclnfkgiddaaDoorCutN
import Derived.Test.YthlfclnfkgiddaaDoorCutT
import Derived.Test.YthlfclnfkgiddaaDoorJouN
import Derived.Test.YthlfclnfkgiddaaDoorStrL
import Derived.Test.YthlfclnfkgiddaaDoorJouM
import Derived.Test.YthlfclnfkgiddaaDoorJouS
import Derived.Test.YthlfclnfkgiddaaDoorBuildLaid
import Derived.Test.YthlfclnfkgiddaaDoorContLaid
import Derived.WalkKit
import Derived.ProofKit
import Derived.OpenShut
import Derived.ShutString
import Derived.ChangeOld
import Derived.Below
import Derived.Lib.Hide
import Derived.BigQuiet
import Derived.Deep.QuietTactic
import Derived.WalkLawsBesides
import Derived.Outline
import Derived.Deep.QuietTactic
import Derived.BigQuiet
import Derived.Deep.LoopGhost
import Derived.Deep.RegionWith
import Derived.Deep.RegionHeld3
import Derived.Lib.Strings
import Derived.Lib.IndexLaws
namespace Go.Proofs.YthlfclnfkgiddaaDoor.jouI
open Go.ChangeShapes Go.WideShapes Go.ChangeAt Go.RowKit
open Go.ChangeMaps (open_string shut_string)
set_option linter.unusedVariables false
open Go Go.RowKit
open Go.Proofs.YthlfclnfkgiddaaDoor.slc Go.Proofs.YthlfclnfkgiddaaDoor.small Go.Proofs.YthlfclnfkgiddaaDoor.wordN Go.Proofs.YthlfclnfkgiddaaDoor.wordS Go.Proofs.YthlfclnfkgiddaaDoor.numN Go.Proofs.YthlfclnfkgiddaaDoor.decI Go.Proofs.YthlfclnfkgiddaaDoor.cutN Go.Proofs.YthlfclnfkgiddaaDoor.cutT Go.Proofs.YthlfclnfkgiddaaDoor.jouN Go.Proofs.YthlfclnfkgiddaaDoor.strL Go.Proofs.YthlfclnfkgiddaaDoor.jouM Go.Proofs.YthlfclnfkgiddaaDoor.jouS Go.Proofs.YthlfclnfkgiddaaDoor.buildLaid Go.Proofs.YthlfclnfkgiddaaDoor.contLaid

theorem bs_ent2 (c : Int) (l : List UInt8) : ((⟨(Lib.itoa (chk c l)).toArray⟩ : ByteArray) ++ { data := #[32] }) ++ bs l ++ { data := #[10] } = bs (ent c l) := by
  have h1 : ({ data := #[32] } : ByteArray) = bs [32] := rfl
  have h2 : ({ data := #[10] } : ByteArray) = bs [10] := rfl
  have h3 : (⟨(Lib.itoa (chk c l)).toArray⟩ : ByteArray) = bs (Lib.itoa (chk c l)) := rfl
  rw [h1, h2, h3, bs_app, bs_app, bs_app]
  rfl
set_option maxRecDepth 100000 in
theorem ent_i (l : List UInt8) (c : Int) (w : World) (hc : 0 ≤ c ∧ c ≤ 65002) (hl : l.length ≤ 1048576) (ht : TabW w) :
    Calls Tryd.prog 54 #[.string (bs l), .int .i64 c] w fun e w' => e = .returned (.tuple #[.string (bs (ent c l)), .int .i64 (chk c l)]) ∧ w.grownBy w' none := by
  have hck := fun w => checkC.impl_yes c (bs l) w hc.1 hc.2 (by rw [bs_size]; unfold maxLen; omega)
  rw [bs_list] at hck
  have hc2 := chk_bd c hc l
  have hit := itoa_small hc2
  have hdc := fun w h => dec_impl (chk c l) w (by omega) (by omega) h
  have HBE := Lib.hid (bs_ent2 c l)
  obtain ⟨c1, hc1⟩ : ∃ c1, chk c l = c1 := ⟨_, rfl⟩
  obtain ⟨T, hT⟩ : ∃ T, bs l = T := ⟨_, rfl⟩
  rw [hc1] at HBE hck hdc hit ⊢
  rw [hT] at HBE hck ⊢
  obtain ⟨D, hDe⟩ : ∃ D, (⟨(Lib.itoa c1).toArray⟩ : ByteArray) = D := ⟨_, rfl⟩
  have zD : D.size ≤ 17 := by
    rw [← hDe]
    have : (⟨(Lib.itoa c1).toArray⟩ : ByteArray).size = (Lib.itoa c1).length := by simp [ByteArray.size]
    omega
  have zT : T.size ≤ 1048576 := by rw [← hT, bs_size]; exact hl
  rw [hDe] at HBE hdc
  have HCK := Lib.hid hck
  have HDC := Lib.hid (fun w h => hdc w h)
  have HT := Lib.hid ht
  clear hck hdc hc2 hit hc1 hT hDe ht hc
  have z1 : ¬ 9223372036854775807 < D.size + 1 := by omega
  have z2 : ¬ 9223372036854775807 < D.size + 1 + T.size := by omega
  have z3 : ¬ 9223372036854775807 < D.size + 1 + T.size + 1 := by omega
  go_enter Tryd.func54, Tryd.ntmps54
  go_wp2_with fail
  refine (HCK.out _).mono ?_
  rintro e w' ⟨rfl, rfl⟩
  go_wp2_with fail
  refine (HDC.out _ HT.out).mono ?_
  rintro e w5 ⟨rfl, hg⟩
  have HG := Lib.hid hg
  clear hg
  go_wp2_with fail
  rw [← HBE.out]
  go_ret2
  exact ⟨rfl, HG.out⟩
theorem isb_kept {T e : TypeId} {B b : Nat} {l : List Value} {w w' : World} (h : Lib.IsBuilder T e B b l w) (hg : w.grownBy w' none) : Lib.IsBuilder T e B b l w' := by
  have key : ∀ p, Lib.BuilderAt T e B b p l w → Lib.BuilderAt T e B b p l w' := by
    rintro p ⟨hB, v, hb, hown, hne⟩
    exact ⟨hB, v, (hg.block b (Array.getElem?_eq_some_iff.1 hb).1 (by simp)).trans hb, own_kept0 hown hg, hne⟩
  exact h.elim (fun x => .inl (key _ x)) (fun x => .inr (key _ x))
theorem cells_app (l m : List UInt8) : Lib.byteCells l ++ Lib.strCells (bs m) = Lib.byteCells (l ++ m) := by
  unfold Lib.byteCells Lib.strCells
  rw [bs_list, List.map_append]
theorem has_nl {L : List UInt8} (b : Bool) (h : decide (0 ≤ Lib.indexByte L 10) = b) : (b = true → (10 : UInt8) ∈ L) ∧ (b = false → (10 : UInt8) ∉ L) := by
  constructor
  · rintro rfl
    have h0 := of_decide_eq_true h
    obtain ⟨i, hi⟩ : ∃ i : Nat, Lib.indexByte L 10 = i := ⟨(Lib.indexByte L 10).toNat, by omega⟩
    exact List.mem_of_getElem? (Lib.indexByte_some hi).1
  · rintro rfl hm
    have h0 := of_decide_eq_false h
    have hge := Lib.indexByte_ge L 10
    obtain ⟨i, hi⟩ := List.getElem?_of_mem hm
    exact Lib.indexByte_none (show Lib.indexByte L 10 = -1 by omega) i hi

end Go.Proofs.YthlfclnfkgiddaaDoor.jouI
