/- The greatest lobes of a small cut, by the program. -/
import Derived.Test.YtkjmlpdbnnmlhabRows
import Derived.Test.YtkjmlpdbnnmlhabSlc
import Derived.Test.YtkjmlpdbnnmlhabSmall
import Derived.Test.YtkjmlpdbnnmlhabListI
import Derived.Test.YtkjmlpdbnnmlhabSortI
import Derived.WalkKit
import Derived.ProofKit
import Derived.OpenShut
import Derived.ShutString
import Derived.ChangeOld
import Derived.Below
import Derived.Lib.Hide
import Derived.BigQuiet
import Derived.Deep.QuietTactic
import Derived.WalkLawsBesides
import Derived.Outline
import Derived.Deep.QuietTactic
import Derived.BigQuiet
import Derived.Deep.LoopGhost
import Derived.RangeFuncBox
namespace Go.Proofs.Ytkjmlpdbnnmlhab.strong
open Go.ChangeShapes Go.WideShapes Go.ChangeAt Go.RowKit
open Go.ChangeMaps (open_string shut_string)
set_option linter.unusedVariables false
open Go Ieee Go.RowKit
open Go.Proofs.Ytkjmlpdbnnmlhab.slc Go.Proofs.Ytkjmlpdbnnmlhab.small Go.Proofs.Ytkjmlpdbnnmlhab.listI Go.Proofs.Ytkjmlpdbnnmlhab.sortI

/-! ## sorting -/
set_option maxHeartbeats 1000000 in
theorem stable_c (lt : Int → Int → Prop) (dom : Int → Prop) (px : Value) (htr : ∀ a b c, ¬ lt b a → ¬ lt c b → ¬ lt c a) (has : ∀ a b, lt a b → ¬ lt b a) (g n cf base : Nat) (l : List Int) (w : World) (hl : l.length = n) (hn : n ≤ 19) (hbs : base ≤ g) (ho : w.ownsRow base 2 1 (.slice (some ⟨g, 0, none⟩) n cf) n (ints l)) (hd : ∀ x ∈ l, dom x)
    (hc : ∀ a b : Int, dom a → dom b → ∃ cv : Int, (cv < 0 ↔ lt a b) ∧ ∀ wx, w.grownBy wx (some g) → Calls Try.prog 147 #[.int .i64 a, .int .i64 b, px] wx fun e w' => e = .returned (.int .i64 cv) ∧ ∃ m, w' = wx.drewN m) :
    Calls Try.prog 146 #[.slice (some ⟨g, 0, none⟩) n cf, .func (.func 147) #[] #[px]] w fun e w' => e = .returned (.tuple #[]) ∧ ∃ s : List Int, s.Perm l ∧ s.Pairwise (fun x y => ¬ lt y x) ∧ w'.ownsRow base 2 1 (.slice (some ⟨g, 0, none⟩) n cf) n (ints s) ∧ w.grownBy w' (some g) := by
  have HI := Lib.hid (ins_cmp lt dom px htr has g n n n cf cf base l w hl (Nat.le_refl _) (Nat.le_refl _) (by omega) hbs ho hd hc)
  have h20 : (n : Int) < 20 := by omega
  have h20' : decide ((20 : Int) ≤ (n : Int)) = false := decide_eq_false (by omega)
  have h20'' : decide ((20 : Int) < (n : Int)) = false := decide_eq_false (by omega)
  have HL := Lib.hid hl
  clear ho hd hc hl
  go_enter Try.func146, Try.ntmps146
  go_wp2_with fail
  have HS := Lib.hid (show Calls Try.prog 234 #[.slice (some ⟨g, 0, none⟩) n cf, .int .i64 (n : Int), .func (.func 147) #[] #[px]] w fun e w' => e = .returned (.tuple #[]) ∧ ∃ s : List Int, s.Perm l ∧ s.Pairwise (fun x y => ¬ lt y x) ∧ w'.ownsRow base 2 1 (.slice (some ⟨g, 0, none⟩) n cf) n (ints s) ∧ w.grownBy w' (some g) by
    go_enter Try.func234, Try.ntmps234
    go_wp2_with fail
    go_loopw [7, 8] (fun av bv wr => av = .int .i64 0 ∧ bv = .int .i64 20 ∧ w = wr) (fun _ _ _ => 0)
    case atStart => exact ⟨rfl, rfl, rfl⟩
    case round =>
      obtain ⟨rfl, rfl, rfl⟩ := hrel
      go_wp2_with fail
      refine HI.out.mono ?_
      rintro e w1 ⟨rfl, s, hp, hs, ho, hg⟩
      have HF := Lib.hid (show s.Perm l ∧ s.Pairwise (fun x y => ¬ lt y x) ∧ w1.ownsRow base 2 1 (.slice (some ⟨g, 0, none⟩) n cf) n (ints s) ∧ w.grownBy w1 (some g) by
        rw [← HL.out, List.take_length] at hp
        have hdl : l.drop n = [] := by rw [← HL.out]; exact List.drop_length
        rw [hdl, List.append_nil] at ho
        exact ⟨hp, hs, ho, hg⟩)
      clear hp hs ho hg
      go_wp2_with fail
      go_loopw [6] (fun bv wr => bv = .int .i64 20 ∧ w1 = wr) (fun _ _ => 0)
      case atStart => exact ⟨rfl, rfl⟩
      case round =>
        obtain ⟨rfl, rfl⟩ := hrel
        go_wp2_with fail
        refine bodyPost_end (results_none rfl _ _ _) rfl ?_
        exact ⟨rfl, s, HF.out⟩)
  refine HS.out.mono ?_
  rintro e w1 ⟨rfl, h⟩
  go_wp2_with fail
  refine bodyPost_end (results_none rfl _ _ _) rfl ?_
  exact ⟨rfl, h⟩
set_option maxRecDepth 100000 in
theorem bits_len (n : Nat) (w : World) (h : n ≤ 4) : ∃ v : Int, Calls Try.prog 237 #[.int .u64 n] w fun e w' => e = .returned (.int .i64 v) ∧ w = w' := by
  match n, h with
  | 0, _ =>
    refine ⟨0, ?_⟩
    go_enter Try.func237, Try.ntmps237
    go_wp2
    go_ret
    exact ⟨by kernel_rfl, rfl⟩
  | 1, _ =>
    refine ⟨1, ?_⟩
    go_enter Try.func237, Try.ntmps237
    go_wp2
    go_ret
    exact ⟨by kernel_rfl, rfl⟩
  | 2, _ =>
    refine ⟨2, ?_⟩
    go_enter Try.func237, Try.ntmps237
    go_wp2
    go_ret
    exact ⟨by kernel_rfl, rfl⟩
  | 3, _ =>
    refine ⟨2, ?_⟩
    go_enter Try.func237, Try.ntmps237
    go_wp2
    go_ret
    exact ⟨by kernel_rfl, rfl⟩
  | 4, _ =>
    refine ⟨3, ?_⟩
    go_enter Try.func237, Try.ntmps237
    go_wp2
    go_ret
    exact ⟨by kernel_rfl, rfl⟩
set_option maxHeartbeats 1000000 in
theorem sort_c (g n m cf cc base : Nat) (l : List Int) (w : World) (hl : l.length = n) (hm : m ≤ 4) (hmn : m ≤ n) (hn : n ≤ 19) (hbs : base ≤ g) (ho : w.ownsRow base 2 1 (.slice (some ⟨g, 0, none⟩) n cf) n (ints l)) :
    Calls Try.prog 149 #[.slice (some ⟨g, 0, none⟩) m cc] w fun e w' => e = .returned (.tuple #[]) ∧ ∃ s : List Int, s.Perm (l.take m) ∧ w'.ownsRow base 2 1 (.slice (some ⟨g, 0, none⟩) n cf) n (ints (s ++ l.drop m)) ∧ w.grownBy w' (some g) := by
  have HI := Lib.hid (ins_ord g n m m cf cc base l w hl (Nat.le_refl _) hmn (by omega) hbs ho)
  obtain ⟨v, hv⟩ := bits_len m w hm
  have HV := Lib.hid hv
  have hm1 : (m : Int) ≤ 12 := by omega
  have hm0 : (0 : Int) ≤ (m : Int) := by omega
  clear ho hv hl
  go_enter Try.func149, Try.ntmps149
  go_wp2_with fail
  refine HV.out.mono ?_
  rintro e w' ⟨rfl, rfl⟩
  clear HV
  have HP := Lib.hid (show Calls Try.prog 236 #[.slice (some ⟨g, 0, none⟩) m cc, .int .i64 0, .int .i64 (m : Int), .int .i64 v] w fun e w' => e = .returned (.tuple #[]) ∧ ∃ s : List Int, s.Perm (l.take m) ∧ w'.ownsRow base 2 1 (.slice (some ⟨g, 0, none⟩) n cf) n (ints (s ++ l.drop m)) ∧ w.grownBy w' (some g) by
    go_enter Try.func236, Try.ntmps236
    go_wp2_with fail
    go_loopw [1, 2, 3, 8, 9] (fun av bv lv xv yv wr => av = .int .i64 0 ∧ bv = .int .i64 (m : Int) ∧ lv = .int .i64 v ∧ xv = .bool true ∧ yv = .bool true ∧ w = wr) (fun _ _ _ _ _ _ => 0)
    case atStart => exact ⟨rfl, rfl, rfl, rfl, rfl, rfl⟩
    case round =>
      obtain ⟨rfl, rfl, rfl, rfl, rfl, rfl⟩ := hrel
      go_wp2_with fail
      refine HI.out.mono ?_
      rintro e w1 ⟨rfl, s, hp, _, ho, hg⟩
      have HF := Lib.hid (And.intro hp (And.intro ho hg))
      clear hp ho hg
      go_wp2_with fail
      refine bodyPost_ret (results_none rfl _ _ _) rfl ?_
      exact ⟨rfl, s, HF.out⟩)
  go_wp2_with fail
  refine HP.out.mono ?_
  rintro e w1 ⟨rfl, h⟩
  go_wp2_with fail
  refine bodyPost_end (results_none rfl _ _ _) rfl ?_
  exact ⟨rfl, h⟩

end Go.Proofs.Ytkjmlpdbnnmlhab.strong
