/- Lists of places in a law: compared, marked, held, copied. -/
import Derived.Test.YthlfclnfkgiddaaRows
import Derived.Test.YthlfclnfkgiddaaSlc
import Derived.Test.YthlfclnfkgiddaaSmall
import Derived.Test.YthlfclnfkgiddaaOpens
import Derived.WalkKit
import Derived.ProofKit
import Derived.OpenShut
import Derived.ShutString
import Derived.ChangeOld
import Derived.Below
import Derived.Lib.Hide
import Derived.BigQuiet
import Derived.Deep.QuietTactic
import Derived.WalkLawsBesides
import Derived.Outline
import Derived.Deep.QuietTactic
import Derived.BigQuiet
import Derived.Deep.LoopGhost
import Derived.StillTailTactics
namespace Go.Proofs.Ythlfclnfkgiddaa.listP
open Go.ChangeShapes Go.WideShapes Go.ChangeAt Go.RowKit
open Go.ChangeMaps (open_string shut_string)
set_option linter.unusedVariables false
open Go Go.RowKit
open Go.Proofs.Ythlfclnfkgiddaa.slc Go.Proofs.Ythlfclnfkgiddaa.small Go.Proofs.Ythlfclnfkgiddaa.opens

theorem infoP : (Try.prog.info? 32).map (fun i => (i.zero, i.size, i.bytes)) = some (some (.agg #[.int .i64 0, .int .i64 0]), 2, 16) := by kernel_rfl

theorem Rd.two {w : World} {B n : Nat} {A : Option Addr} {f : Nat → Value} (h : Rd w B A (n * 2) f) (hi : Ints f (n * 2)) {k : Nat} (hk : k < n) :
    ∃ ad x y, A = some ad ∧ ad.block < B ∧ f (k * 2) = .int .i64 x ∧ f (k * 2 + 1) = .int .i64 y ∧ w.cell? (ad.add (k * 2)) = some (.int .i64 x) ∧ w.cell? ⟨(ad.add (k * 2)).block, (ad.add (k * 2)).off + 1, none⟩ = some (.int .i64 y) := by
  obtain ⟨ad, e, hb, hc⟩ := h (by omega)
  obtain ⟨x, hx⟩ := hi (k * 2) (by omega)
  obtain ⟨y, hy⟩ := hi (k * 2 + 1) (by omega)
  exact ⟨ad, x, y, e, hb, hx, hy, (hc _ (by omega)).trans (by rw [hx]), by rw [add_next]; exact (hc _ (by omega)).trans (by rw [hy])⟩

theorem eq_place (x y : Int) (w : World) :
    Calls Try.prog 19 #[.agg #[.int .i64 x, .int .i64 y], .agg #[.int .i64 x, .int .i64 y]] w fun e w' => e = .returned (.bool true) ∧ w.grownBy w' none := by
  go_enter Try.func19, Try.ntmps19
  go_wp2
  go_ret
  exact ⟨rfl, (World.grownBy_alloc _ _ _).trans (World.grownBy_alloc _ _ _)⟩

set_option maxHeartbeats 400000 in
set_option maxRecDepth 100000 in
theorem eqP_true (A A' : Option Addr) (n c d B : Nat) (f : Nat → Value) (w : World) (hn : n ≤ 9223372036854775807) (hB : B ≤ w.heap.size) (hi : Ints f (n * 2)) (ha : Rd w B A (n * 2) f) (hb : Rd w B A' (n * 2) f) :
    Calls Try.prog 10 #[.slice A n c, .slice A' n d] w fun e w' => e = .returned (.bool true) ∧ w.grownBy w' none := by
  go_enter Try.func10, Try.ntmps10
  go_wp2
  go_loopw [5] (fun i wr => ∃ k : Nat, k ≤ n ∧ i = .int .i64 k ∧ w.grownBy wr none) (fun i _ => n - (intOf i).toNat)
  case atStart => exact ⟨0, Nat.zero_le _, rfl, World.grownBy.refl _ _⟩
  case round =>
    obtain ⟨k, hk, rfl, hg⟩ := hrel
    by_cases hlt : k < n
    · obtain ⟨ad, x, y, rfl, _, hx, hy, hc, hd⟩ := Rd.two (ha.kept0 hg hB) hi hlt
      obtain ⟨bd, x', y', rfl, _, hx', hy', hc', hd'⟩ := Rd.two (hb.kept0 hg hB) hi hlt
      obtain rfl : x' = x := by rw [hx] at hx'; injection hx' with _ e; exact e.symm
      obtain rfl : y' = y := by rw [hy] at hy'; injection hy' with _ e; exact e.symm
      clear hx hy hx' hy'
      go_wp2
      have hgd : w.grownBy wr.drew none := ⟨hg.os, hg.tape, hg.output, hg.size, hg.block⟩
      go_still_tail 8, (by kernel_rfl)
      change wpList _ _ _ _ _ wr.drew
      generalize wr.drew = w2 at hgd ⊢
      go_wp2_with fail
      refine (eq_place _ _ _).mono ?_
      rintro e w3 ⟨rfl, hg3⟩
      have hg4 := hgd.trans hg3
      go_wp2
      go_roundw
      case rel => exact ⟨k + 1, by omega, by go_num, hg4⟩
      case measure => simp [intOf]; omega
    · go_wp2
      go_ret
      exact ⟨rfl, hg⟩

set_option maxHeartbeats 400000 in
theorem markP (A : Option Addr) (n c base : Nat) (e : TypeId) (k : Nat) (f : Nat → Value) (w : World) (hn : n * 2 + k ≤ 4611686018427387904) (ho : w.ownsRow base e 2 (.slice A n c) n (lst f (n * 2))) :
    Calls Try.prog 13 #[.slice A n c, .int .i64 k] w fun en w' => en = .returned (.int .i64 (k + n * 2 : Nat)) ∧ w'.ownsRow base e 2 (.slice A n c) n (lst (mkv k) (n * 2)) ∧ w.grownBy w' (A.map Addr.block) := by
  go_enter Try.func13, Try.ntmps13
  go_wp2
  go_loopw [1, 5] (fun m i wr => ∃ j : Nat, j ≤ n ∧ i = .int .i64 j ∧ m = .int .i64 (k + j * 2 : Nat) ∧ wr.ownsRow base e 2 (.slice A n c) n (lst (mix (mkv k) f (j * 2)) (n * 2)) ∧ w.grownBy wr (A.map Addr.block)) (fun _ i _ => n - (intOf i).toNat)
  case atStart => exact ⟨0, Nat.zero_le _, rfl, rfl, by rw [Nat.zero_mul, mix_zero]; exact ho, World.grownBy.refl _ _⟩
  case round =>
    obtain ⟨j, hj, rfl, rfl, hown, hg⟩ := hrel
    by_cases hlt : j < n
    · obtain ⟨g, cap, hv, _, _⟩ := hown.form (by omega)
      obtain ⟨rfl, rfl⟩ : A = some ⟨g, 0, none⟩ ∧ c = cap := by injection hv with a b c; exact ⟨a, c⟩
      clear hv
      have hc := hown.cellAt (j * 2) (by omega)
      rw [lst_get _ _ _ (by omega)] at hc
      have hf := hown.frozenAt (j * 2)
      have hc2 := hown.cellAt (j * 2 + 1) (by omega)
      rw [lst_get _ _ _ (by omega)] at hc2
      have hf2 := hown.frozenAt (j * 2 + 1)
      have e1 : mkv k (j * 2) = .int .i64 ((k : Int) + (j : Int) * 2) := by simp [mkv]
      have e2 : mkv k (j * 2 + 1) = .int .i64 ((k : Int) + (j : Int) * 2 + 1) := by simp [mkv, Int.add_assoc]
      obtain ⟨hs1, hs2⟩ := hown.stored (j * 2) (mkv k (j * 2))
      rw [mix_set _ _ _ _ (by omega)] at hs1
      obtain ⟨ht1, ht2⟩ := hs1.stored (j * 2 + 1) (mkv k (j * 2 + 1))
      rw [mix_set _ _ _ _ (by omega)] at ht1
      have hs2' := (hg.trans hs2).trans ht2
      rw [e1, e2] at hs2' ht1
      clear hg hown hs2 hs1 ht2 e1 e2
      have HS := Lib.hid ht1
      have HG := Lib.hid hs2'
      clear ht1 hs2'
      go_wp2
      go_roundw
      case rel => exact ⟨j + 1, by omega, by go_num, by go_num, by rw [show (j + 1) * 2 = j * 2 + 1 + 1 by omega]; exact HS.out, HG.out⟩
      case measure => simp [intOf]; omega
    · obtain rfl : j = n := by omega
      go_wp2
      go_ret
      exact ⟨by go_num, by rw [← mix_full]; exact hown, hg⟩

set_option maxHeartbeats 400000 in
theorem heldP (A : Option Addr) (n c B : Nat) (k : Nat) (w : World) (hn : n * 2 + k ≤ 4611686018427387904) (ha : Rd w B A (n * 2) (mkv k)) :
    Calls Try.prog 16 #[.slice A n c, .int .i64 k] w fun en w' => en = .returned (.int .i64 (k + n * 2 : Nat)) ∧ w = w' := by
  go_enter Try.func16, Try.ntmps16
  go_wp2
  go_loop [1, 5] (fun m i => ∃ j : Nat, j ≤ n ∧ i = .int .i64 j ∧ m = .int .i64 (k + j * 2 : Nat)) (fun _ i => n - (intOf i).toNat)
  case atStart => exact ⟨0, Nat.zero_le _, rfl, rfl⟩
  case round =>
    obtain ⟨j, hj, rfl, rfl⟩ := hrel
    by_cases hlt : j < n
    · obtain ⟨ad, x, y, rfl, _, hx, hy, hc, hd⟩ := Rd.two ha (fun i _ => ⟨_, rfl⟩) hlt
      have e1 : x = (k : Int) + (j : Int) * 2 := by simp [mkv] at hx; exact hx.symm
      have e2 : y = (k : Int) + (j : Int) * 2 + 1 := by simp [mkv] at hy; omega
      subst e1 e2
      clear hx hy
      go_wp2
      go_round
      case rel => exact ⟨j + 1, by omega, by go_num, by go_num⟩
      case measure => simp [intOf]; omega
    · obtain rfl : j = n := by omega
      go_wp2
      go_ret
      exact ⟨by go_num, rfl⟩

theorem markP1 (A : Option Addr) (n c base : Nat) (e : TypeId) (f : Nat → Value) (w : World) (hn : n ≤ 1099511627776) (ho : w.ownsRow base e 2 (.slice A n c) n (lst f (n * 2))) :
    Calls Try.prog 13 #[.slice A n c, .int .i64 1] w fun en w' => en = .returned (.int .i64 (n * 2 + 1)) ∧ w'.ownsRow base e 2 (.slice A n c) n (lst (mkv 1) (n * 2)) ∧ w.grownBy w' (A.map Addr.block) :=
  (markP A n c base e 1 f w (by omega) ho).mono fun en w' ⟨h1, h2, h3⟩ => ⟨by rw [h1]; go_num, h2, h3⟩
theorem heldP1 (A : Option Addr) (n c B : Nat) (w : World) (hn : n ≤ 1099511627776) (ha : Rd w B A (n * 2) (mkv 1)) :
    Calls Try.prog 16 #[.slice A n c, .int .i64 1] w fun en w' => en = .returned (.int .i64 (n * 2 + 1)) ∧ w = w' :=
  (heldP A n c B 1 w (by omega) ha).mono fun en w' ⟨h1, h2⟩ => ⟨by rw [h1]; go_num, h2⟩

theorem szP : True := trivial
theorem szP_no : True := trivial

theorem made_places (n : Nat) : (madeCells (Value.agg #[.int .i64 0, .int .i64 0]).cells (n * 2)).toList = lst (fun _ => .int .i64 0) (n * 2) := by
  apply List.ext_getElem?
  intro i
  by_cases hi : i < n * 2
  · have : (Value.agg #[.int .i64 0, .int .i64 0]).cells = #[.int .i64 0, .int .i64 0] := rfl
    rw [this]
    have h2 : i % 2 = 0 ∨ i % 2 = 1 := by omega
    rcases h2 with h2 | h2 <;> simp [madeCells, lst, hi, h2]
  · simp [madeCells, lst, hi]

set_option maxHeartbeats 400000 in
set_option maxRecDepth 100000 in
theorem toP : True := trivial

/-- A function answers with a list of places of its own, and a bool. -/
def GivesP (F : Nat) (args : Array Value) (ps : List (Int × Int)) (ok : Bool) : Prop :=
  ∀ w : World, Calls Try.prog F args w fun e w' => ∃ A c, e = .returned (.tuple #[.slice A ps.length c, .bool ok]) ∧ w'.ownsRow w.heap.size 32 2 (.slice A ps.length c) ps.length (lst (pcell ps) (ps.length * 2)) ∧ w.grownBy w' none
theorem pcell_snoc (ps : List (Int × Int)) (x y : Int) : lst (pcell (ps ++ [(x, y)])) ((ps ++ [(x, y)]).length * 2) = lst (pcell ps) (ps.length * 2) ++ [.int .i64 x, .int .i64 y] := by
  apply List.ext_getElem?
  intro i
  by_cases h1 : i < ps.length * 2
  · rw [List.getElem?_append_left (by rw [lst_len]; exact h1), lst_get _ _ _ h1, lst_get _ _ _ (by simp; omega)]
    unfold pcell
    have hi : i / 2 < ps.length := by omega
    simp [List.getD, List.getElem?_append_left hi]
  · rw [List.getElem?_append_right (by rw [lst_len]; omega), lst_len]
    by_cases h2 : i < (ps.length + 1) * 2
    · rw [lst_get _ _ _ (by simpa using h2)]
      have h3 : i = ps.length * 2 ∨ i = ps.length * 2 + 1 := by omega
      have e2 : (ps.length * 2 + 1) / 2 = ps.length := by omega
      rcases h3 with rfl | rfl
      · simp [pcell]
      · simp [pcell, e2, Nat.add_mod]
    · have h3 : ¬ i < (ps ++ [(x, y)]).length * 2 := by simpa using h2
      rw [List.getElem?_eq_none (by rw [lst_len]; omega), List.getElem?_eq_none (by simp; omega)]
theorem pair_one (x y : Int) : ∀ u ∈ [Value.int .i64 x, Value.int .i64 y], u.oneCell' = true := by
  intro u hu
  have : u = .int .i64 x ∨ u = .int .i64 y := by simpa using hu
  rcases this with rfl | rfl <;> rfl
theorem build_place (w : World) (x y : Int) : (Instr.build 32 #[(0, .int .i64 x), (1, .int .i64 y)]).run Try.prog w = .ok (.agg #[.int .i64 x, .int .i64 y]) w := run_build w 32 _ _ (by kernel_rfl)

end Go.Proofs.Ythlfclnfkgiddaa.listP
