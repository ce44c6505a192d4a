/- TourTicks by the model. -/
import Derived.Test.YtmemclcoegmjjaaRows
import Derived.Test.YtmemclcoegmjjaaSlc
import Derived.Test.YtmemclcoegmjjaaSmall
import Derived.Test.YtmemclcoegmjjaaOpens
import Derived.Test.YtmemclcoegmjjaaListI
import Derived.Test.YtmemclcoegmjjaaPlanNum
import Derived.Test.YtmemclcoegmjjaaSwT
import Derived.Test.YtmemclcoegmjjaaBeamsOk
import Derived.Test.YtmemclcoegmjjaaListDir
import Derived.Test.YtmemclcoegmjjaaDirsOk
import Derived.Test.YtmemclcoegmjjaaSortO
import Derived.Test.YtmemclcoegmjjaaSeqV
import Derived.Test.YtmemclcoegmjjaaOrdC
import Derived.Test.YtmemclcoegmjjaaTourC
import Derived.Test.YtmemclcoegmjjaaTourS
import Derived.WalkKit
import Derived.ProofKit
import Derived.OpenShut
import Derived.ShutString
import Derived.ChangeOld
import Derived.Below
import Derived.Lib.Hide
import Derived.BigQuiet
import Derived.Deep.QuietTactic
import Derived.WalkLawsBesides
import Derived.Outline
import Derived.Deep.QuietTactic
import Derived.BigQuiet
import Derived.Deep.LoopGhost
import Derived.Deep.RegionHeld3
import Derived.Deep.RegionWith
import Derived.Deep.OwnRows
namespace Go.Proofs.Ytmemclcoegmjjaa.tourQ
open Go.ChangeShapes Go.WideShapes Go.ChangeAt Go.RowKit
open Go.ChangeMaps (open_string shut_string)
set_option linter.unusedVariables false
open Go Go.RowKit
open Go.Proofs.Ytmemclcoegmjjaa.slc Go.Proofs.Ytmemclcoegmjjaa.small Go.Proofs.Ytmemclcoegmjjaa.opens Go.Proofs.Ytmemclcoegmjjaa.listI Go.Proofs.Ytmemclcoegmjjaa.planNum Go.Proofs.Ytmemclcoegmjjaa.swT Go.Proofs.Ytmemclcoegmjjaa.beamsOk Go.Proofs.Ytmemclcoegmjjaa.dirsOk Go.Proofs.Ytmemclcoegmjjaa.ordC Go.Proofs.Ytmemclcoegmjjaa.tourC Go.Proofs.Ytmemclcoegmjjaa.tourS

/-- append, told apart: the walk is not to lay it open. -/
def appS (ats : Array TypeId) (ty : TypeId) (args : Array Value) : Sem Value := Builtin.append_ ats ty args
theorem app_stop (ats : Array TypeId) (ty : TypeId) (args : Array Value) : Builtin.append_ ats ty args = appS ats ty args := rfl
theorem row_slice {W : World} {base : Nat} {e : TypeId} {size : Nat} {v : Value} {k : Nat} {xs : List Value} (h : W.ownsRow base e size v k xs) : ∃ A c, v = .slice A k c := by
  rcases h.2 with ⟨rfl, rfl⟩ | ⟨g, cap, _, rfl, _⟩
  · exact ⟨_, _, rfl⟩
  · exact ⟨_, _, rfl⟩
/-- One number more. -/
theorem app_v {base : Nat} {W w5 : World} {A : Option Addr} {cap k : Nat} {xs : List Int} (x : Int) (i0 : TypeInfo) (hi0 : Try.prog.info? 2 = some i0) (hz0 : i0.zero = some (.int .i64 0)) (hz1 : i0.size = 1) (hz2 : i0.bytes = 8)
    (hb : base ≤ W.heap.size) (h2 : W.ownsRow base 2 1 (.slice A k cap) k (ints xs)) (hk : k < 100000) (gd : W.grownBy w5 none) :
    ∃ A6 c6 w6, (appS #[59, 59] 59 #[.slice A k cap, .slice (some ⟨w5.heap.size, 0, none⟩) 1 1]).run Try.prog (w5.alloc (.cells #[.int .i64 x] 2)) = .ok (.slice A6 (k + 1) c6) w6 ∧
      w6.ownsRow base 2 1 (.slice A6 (k + 1) c6) (k + 1) (ints (xs ++ [x])) ∧ (w5.alloc (.cells #[.int .i64 x] 2)).grownBy w6 (A.map Addr.block) := by
  have b2 := own_kept0 h2 gd
  have hs5 := Nat.le_trans hb gd.size
  obtain ⟨v6, w6, hrun, r1, r2, _⟩ := run_append_own (P := Try.prog) (w5.alloc (.cells #[.int .i64 x] 2)) base 59 59 2 i0 (.int .i64 0) 1 8 Try.underlying59 hi0 hz0 hz1 hz2 rfl (by decide) _ _ _ (b2.alloc _) ⟨w5.heap.size, 0, none⟩ 1 1 [.int .i64 x] rfl (cell_one_new _ _ _) (by simp [Value.oneCell']) (by unfold maxLen; omega) (by omega) (by simp; omega)
  obtain ⟨A6, c6, rfl⟩ := row_slice r1
  rw [slc.ints_snoc] at r1
  rw [own_blk] at r2
  exact ⟨A6, c6, w6, hrun, r1, r2⟩
theorem infoI : (Try.prog.info? 2).map (fun i => (i.zero, i.size, i.bytes)) = some (some (.int .i64 0), 1, 8) := by kernel_rfl

/-- The first k are in their range, each once. -/
def GoodP (xs : List Int) (n k : Nat) : Prop := (∀ i (h : i < xs.length), i < k → 0 ≤ xs[i] ∧ xs[i] ≤ (n : Int) - 1) ∧ (xs.take k).Nodup
theorem GoodP.zero (xs : List Int) (n : Nat) : GoodP xs n 0 := ⟨fun i _ h => absurd h (by omega), by simp⟩
theorem GoodP.succ {xs : List Int} {n k : Nat} (h : GoodP xs n k) (hk : k < xs.length) (h1 : 0 ≤ xs[k]) (h2 : xs[k] ≤ (n : Int) - 1) (h3 : xs[k] ∉ xs.take k) : GoodP xs n (k + 1) := by
  refine ⟨fun i hi hlt => ?_, ?_⟩
  · by_cases e : i = k
    · subst e; exact ⟨h1, h2⟩
    · exact h.1 i hi (by omega)
  · rw [List.take_succ_eq_append_getElem hk, List.nodup_append]
    refine ⟨h.2, by simp, fun a ha b hb => ?_⟩
    rw [List.mem_singleton] at hb
    subst hb
    rintro rfl
    exact h3 ha
theorem GoodP.all {xs : List Int} {n : Nat} (h : GoodP xs n xs.length) (hl : xs.length = n) : ordB xs n = true := by
  refine decide_eq_true ⟨hl, fun x hx => ?_, by have := h.2; rwa [List.take_length] at this⟩
  obtain ⟨i, hi, rfl⟩ := List.mem_iff_getElem.1 hx
  exact h.1 i hi hi
theorem ord_out {xs : List Int} {n k : Nat} (hk : k < xs.length) (h : xs[k] < 0 ∨ (n : Int) - 1 < xs[k]) : ordB xs n = false :=
  decide_eq_false fun h' => by have := h'.2.1 _ (List.getElem_mem hk); omega
theorem ord_twice {xs : List Int} {n k : Nat} (hk : k < xs.length) (h : xs[k] ∈ xs.take k) : ordB xs n = false :=
  decide_eq_false fun h' => by
    have h2 : (xs.take (k + 1)).Nodup := h'.2.2.sublist (List.take_sublist _ _)
    rw [List.take_succ_eq_append_getElem hk, List.nodup_append] at h2
    exact h2.2.2 _ h _ (List.mem_singleton.2 rfl) rfl
theorem tt_no {ds : List (Int × Int)} {xs : List Int} (h : ordB xs ds.length = false) : TT ds xs = (0, false) := by unfold TT; rw [if_neg (by simp [h])]

section
attribute [local go_sem ↓] app_stop
set_option maxHeartbeats 3200000 in
set_option maxRecDepth 100000 in
theorem tour_spec : True := trivial
end

end Go.Proofs.Ytmemclcoegmjjaa.tourQ
