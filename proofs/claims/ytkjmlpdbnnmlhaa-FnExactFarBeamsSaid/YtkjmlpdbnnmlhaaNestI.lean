/- Lists of lists of integers in memory, compared, marked and held in a law. -/
import Derived.Test.YtkjmlpdbnnmlhaaRows
import Derived.Test.YtkjmlpdbnnmlhaaSlc
import Derived.Test.YtkjmlpdbnnmlhaaSmall
import Derived.Test.YtkjmlpdbnnmlhaaOpens
import Derived.Test.YtkjmlpdbnnmlhaaListI
import Derived.WalkKit
import Derived.ProofKit
import Derived.OpenShut
import Derived.ShutString
import Derived.ChangeOld
import Derived.Below
import Derived.Lib.Hide
import Derived.BigQuiet
import Derived.Deep.QuietTactic
import Derived.WalkLawsBesides
import Derived.Outline
import Derived.Deep.QuietTactic
import Derived.BigQuiet
import Derived.Deep.LoopGhost
import Derived.Deep.RegionHeld3
import Derived.Deep.RegionWith
import Derived.StillTailTactics
namespace Go.Proofs.Ytkjmlpdbnnmlhaa.nestI
open Go.ChangeShapes Go.WideShapes Go.ChangeAt Go.RowKit
open Go.ChangeMaps (open_string shut_string)
set_option linter.unusedVariables false
open Go Go.RowKit
open Go.Proofs.Ytkjmlpdbnnmlhaa.slc Go.Proofs.Ytkjmlpdbnnmlhaa.small Go.Proofs.Ytkjmlpdbnnmlhaa.opens Go.Proofs.Ytkjmlpdbnnmlhaa.listI

/-- The row k, in the block a k. -/
def orow (a c m : Nat → Nat) (k : Nat) : Value := .slice (some ⟨a k, 0, none⟩) (m k) (c k)
/-- n rows of m k numbers each lie there. -/
def RdN (w : World) (B : Nat) (O : Option Addr) (n : Nat) (m a c : Nat → Nat) (f : Nat → Nat → Value) : Prop :=
  Rd w B O n (orow a c m) ∧ ∀ k, k < n → Rd w B (some ⟨a k, 0, none⟩) (m k) (f k)
theorem RdN.kept0 {w w' : World} {B n : Nat} {O : Option Addr} {m a c : Nat → Nat} {f : Nat → Nat → Value} (h : RdN w B O n m a c f) (hg : w.grownBy w' none) (hB : B ≤ w.heap.size) : RdN w' B O n m a c f :=
  ⟨h.1.kept0 hg hB, fun k hk => (h.2 k hk).kept0 hg hB⟩
theorem RdN.mono {w : World} {B B' n : Nat} {O : Option Addr} {m a c : Nat → Nat} {f : Nat → Nat → Value} (h : RdN w B O n m a c f) (hB : B ≤ B') : RdN w B' O n m a c f :=
  ⟨h.1.mono hB, fun k hk => (h.2 k hk).mono hB⟩
theorem RdN.below {w w' : World} {B n : Nat} {O : Option Addr} {m a c : Nat → Nat} {f : Nat → Nat → Value} (h : RdN w B O n m a c f) (hb : Below B w w') : RdN w' B O n m a c f :=
  ⟨h.1.below hb, fun k hk => (h.2 k hk).below hb⟩
/-- n rows are the call's own, each in a block of its own. -/
structure OwnN (w : World) (base : Nat) (v : Value) (n : Nat) (m a c : Nat → Nat) (f : Nat → Nat → Value) : Prop where
  outer : w.ownsRow base 50 1 v n (lst (orow a c m) n)
  rows : ∀ k, k < n → w.ownsRow base 2 1 (orow a c m k) (m k) (lst (f k) (m k))
  apart : ∀ j k, j < n → k < n → j ≠ k → a j ≠ a k
  other : ∀ k, k < n → v.ownBlock ≠ some (a k)
theorem OwnN.kept0 {w w' : World} {base n : Nat} {v : Value} {m a c : Nat → Nat} {f : Nat → Nat → Value} (h : OwnN w base v n m a c f) (hg : w.grownBy w' none) : OwnN w' base v n m a c f :=
  ⟨own_kept0 h.outer hg, fun k hk => own_kept0 (h.rows k hk) hg, h.apart, h.other⟩
theorem OwnN.rd {w : World} {base n c0 : Nat} {O : Option Addr} {m a c : Nat → Nat} {f : Nat → Nat → Value} (h : OwnN w base (.slice O n c0) n m a c f) : RdN w w.heap.size O n m a c f :=
  ⟨Rd.of_lst h.outer (Nat.mul_one _).symm, fun k hk => Rd.of_lst (h.rows k hk) (Nat.mul_one _).symm⟩
theorem OwnN.mono {w : World} {b b' n : Nat} {v : Value} {m a c : Nat → Nat} {f : Nat → Nat → Value} (h : OwnN w b v n m a c f) (hb : b' ≤ b) : OwnN w b' v n m a c f :=
  ⟨own_mono h.outer hb, fun k hk => own_mono (h.rows k hk) hb, h.apart, h.other⟩
theorem OwnN.row_at {w : World} {base n : Nat} {v : Value} {m a c : Nat → Nat} {f : Nat → Nat → Value} (h : OwnN w base v n m a c f) {k : Nat} (hk : k < n) : base ≤ a k ∧ a k < w.heap.size := own_base (h.rows k hk) (a k) rfl

set_option maxHeartbeats 800000 in
set_option maxRecDepth 100000 in
theorem eqN (O O' : Option Addr) (n d d' B : Nat) (m a c a' c' : Nat → Nat) (f : Nat → Nat → Value) (w : World) (hn : n ≤ 9223372036854775807) (hm : ∀ k, k < n → m k ≤ 9223372036854775807) (hB : B ≤ w.heap.size) (hi : ∀ k, k < n → Ints (f k) (m k))
    (ha : RdN w B O n m a c f) (hb : RdN w B O' n m a' c' f) :
    Calls Try.prog 55 #[.slice O n d, .slice O' n d'] w fun e w' => e = .returned (.bool true) ∧ w.grownBy w' none := by
  have HA := Lib.hid ha
  have HBB := Lib.hid hb
  have HI := Lib.hid hi
  have HM := Lib.hid hm
  clear ha hb hi hm
  go_enter Try.func55, Try.ntmps55
  go_wp2
  go_loopw [5] (fun i wr => ∃ k : Nat, k ≤ n ∧ i = .int .i64 k ∧ w.grownBy wr none) (fun i _ => n - (intOf i).toNat)
  case atStart => exact ⟨0, Nat.zero_le _, rfl, World.grownBy.refl _ _⟩
  case round =>
    obtain ⟨k, hk, rfl, hg⟩ := hrel
    by_cases hlt : k < n
    · obtain ⟨ad, rfl, _, hc0⟩ := (HA.out.1.kept0 hg hB).at_ hlt
      obtain ⟨bd, rfl, _, hd0⟩ := (HBB.out.1.kept0 hg hB).at_ hlt
      have hk0 : (0 : Int) ≤ k := by omega
      have hk1 : (k : Int) < n := by omega
      have HC := Lib.hid (fun (w2 : World) (g2 : w.grownBy w2 none) => eqI_true (some ⟨a k, 0, none⟩) (some ⟨a' k, 0, none⟩) (m k) (c k) (c' k) B (f k) w2 (HM.out k hlt) (HI.out k hlt) ((HA.out.2 k hlt).kept0 g2 hB) ((HBB.out.2 k hlt).kept0 g2 hB))
      unfold orow at hc0 hd0
      generalize a k = a1 at *
      generalize a' k = a2 at *
      generalize c k = c1 at *
      generalize c' k = c2 at *
      generalize m k = m1 at *
      go_wp2
      have hgd : w.grownBy wr.drew none := ⟨hg.os, hg.tape, hg.output, hg.size, hg.block⟩
      go_still_tail 8, (by kernel_rfl)
      change wpList _ _ _ _ _ wr.drew
      generalize wr.drew = w2 at hgd ⊢
      go_wp2_with fail
      refine (HC.out _ hgd).mono ?_
      rintro e w3 ⟨rfl, hg3⟩
      have hg4 := hgd.trans hg3
      go_wp2
      go_roundw
      case rel => exact ⟨k + 1, by omega, by go_num, hg4⟩
      case measure => simp [intOf]; omega
    · go_wp2
      go_ret
      exact ⟨rfl, hg⟩

/-- Where the marks of the row i begin. -/
def mk (s : Nat) (m : Nat → Nat) : Nat → Nat
  | 0 => s
  | i + 1 => mk s m i + m i
theorem mk_le (s : Nat) (m : Nat → Nat) (n : Nat) : ∀ i, i ≤ n → mk s m i ≤ mk s m n := by
  intro i
  induction n with
  | zero => intro h; obtain rfl : i = 0 := by omega
            exact Nat.le_refl _
  | succ n ih =>
    intro h
    by_cases e : i = n + 1
    · subst e; exact Nat.le_refl _
    · exact Nat.le_trans (ih (by omega)) (Nat.le_add_right _ _)
def mixN (g f : Nat → Nat → Value) (i : Nat) : Nat → Nat → Value := fun k => if k < i then g k else f k
theorem mixN_zero (g f : Nat → Nat → Value) : mixN g f 0 = f := by funext k; simp [mixN]
theorem OwnN.put {w w' : World} {base n j : Nat} {v : Value} {m a c : Nat → Nat} {f : Nat → Nat → Value} {g : Nat → Value} (h : OwnN w base v n m a c f) (hj : j < n)
    (ho : w'.ownsRow base 2 1 (orow a c m j) (m j) (lst g (m j))) (hg : w.grownBy w' (some (a j))) : OwnN w' base v n m a c (fun k => if k = j then g else f k) := by
  refine ⟨World.ownsRow.kept h.outer hg (.inr (h.other j hj)), fun k hk => ?_, h.apart, h.other⟩
  by_cases e : k = j
  · subst e
    rw [if_pos rfl]
    exact ho
  · rw [if_neg e]
    exact World.ownsRow.kept (h.rows k hk) hg (.inr (by simpa [orow, Value.ownBlock] using h.apart k j hk hj e))
/-- Of the blocks that were there, only rows have changed. -/
structure OnlyRows (n : Nat) (a : Nat → Nat) (w w' : World) : Prop where
  os : w'.os = w.os
  tape : w'.tape = w.tape
  output : w'.output = w.output
  size : w.heap.size ≤ w'.heap.size
  block : ∀ k, k < w.heap.size → (∀ i, i < n → k ≠ a i) → w'.heap[k]? = w.heap[k]?
theorem OnlyRows.refl (n : Nat) (a : Nat → Nat) (w : World) : OnlyRows n a w w := ⟨rfl, rfl, rfl, Nat.le_refl _, fun _ _ _ => rfl⟩
theorem OnlyRows.row {n j : Nat} {a : Nat → Nat} {w wr w' : World} (h : OnlyRows n a w wr) (hj : j < n) (hg : wr.grownBy w' (some (a j))) : OnlyRows n a w w' :=
  ⟨hg.os.trans h.os, hg.tape.trans h.tape, hg.output.trans h.output, Nat.le_trans h.size hg.size, fun k hk hne => (hg.block k (Nat.lt_of_lt_of_le hk h.size) (by intro e; injection e with e; exact hne j hj e)).trans (h.block k hk hne)⟩
theorem OnlyRows.below {n B : Nat} {a : Nat → Nat} {w w' : World} (h : OnlyRows n a w w') (hB : B ≤ w.heap.size) (hr : ∀ i, i < n → B ≤ a i) : Below B w w' :=
  ⟨h.os, h.tape, h.output, h.size, fun k hk => h.block k (by omega) (fun i hi => by have := hr i hi; omega)⟩
theorem mixN_succ (g f : Nat → Nat → Value) (j : Nat) : (fun k => if k = j then g j else mixN g f j k) = mixN g f (j + 1) := by
  funext k
  unfold mixN
  by_cases e : k = j
  · subst e; simp
  · rw [if_neg e]
    by_cases h : k < j
    · rw [if_pos h, if_pos (by omega)]
    · rw [if_neg h, if_neg (by omega)]
theorem OwnN.mixed {w : World} {base n : Nat} {v : Value} {m a c : Nat → Nat} {g f : Nat → Nat → Value} (h : OwnN w base v n m a c (mixN g f n)) : OwnN w base v n m a c g :=
  ⟨h.outer, fun k hk => by have := h.rows k hk; unfold mixN at this; rwa [if_pos hk] at this, h.apart, h.other⟩
def mkf (s : Nat) (m : Nat → Nat) (k : Nat) : Nat → Value := mkv ((mk s m k : Nat) : Int)

set_option maxHeartbeats 800000 in
set_option maxRecDepth 100000 in
theorem markN (O : Option Addr) (n d base s : Nat) (m a c : Nat → Nat) (f : Nat → Nat → Value) (w : World) (hn : n ≤ 65536) (hm : mk s m n ≤ 1048576) (ho : OwnN w base (.slice O n d) n m a c f) :
    Calls Try.prog 56 #[.slice O n d, .int .i64 s] w fun en w' => en = .returned (.int .i64 (mk s m n : Nat)) ∧ OwnN w' base (.slice O n d) n m a c (mkf s m) ∧ OnlyRows n a w w' := by
  go_enter Try.func56, Try.ntmps56
  go_wp2
  go_loopw [1, 5] (fun q i wr => ∃ j : Nat, j ≤ n ∧ i = .int .i64 j ∧ q = .int .i64 (mk s m j : Nat) ∧ OwnN wr base (.slice O n d) n m a c (mixN (mkf s m) f j) ∧ OnlyRows n a w wr) (fun _ i _ => n - (intOf i).toNat)
  case atStart => exact ⟨0, Nat.zero_le _, rfl, rfl, by rw [mixN_zero]; exact ho, OnlyRows.refl _ _ _⟩
  case round =>
    obtain ⟨j, hj, rfl, rfl, hown, hb⟩ := hrel
    by_cases hlt : j < n
    · obtain ⟨ad, rfl, _, hc0⟩ := hown.rd.1.at_ hlt
      have hkm : mk s m j + m j ≤ mk s m n := mk_le s m n (j + 1) (by omega)
      have HMM := Lib.hid (markI (some ⟨a j, 0, none⟩) (m j) (c j) base 2 (mk s m j) (mixN (mkf s m) f j j) wr (by omega) (hown.rows j hlt))
      have HO := Lib.hid hown
      have HB := Lib.hid hb
      have HE := Lib.hid (show mk s m (j + 1) = mk s m j + m j from rfl)
      have hk0 : (0 : Int) ≤ j := by omega
      have hk1 : (j : Int) < n := by omega
      unfold orow at hc0
      clear hown hb
      go_wp2_with fail
      refine HMM.out.mono ?_
      rintro e w2 ⟨rfl, h2, hg2⟩
      have HN := Lib.hid (HO.out.put hlt h2 hg2)
      have HBN := Lib.hid (HB.out.row hlt hg2)
      clear h2 hg2 HMM
      go_wp2_with fail
      go_roundw
      case rel => exact ⟨j + 1, by omega, by go_num, by rw [HE.out]; go_num, by rw [← mixN_succ]; exact HN.out, HBN.out⟩
      case measure => simp [intOf]; omega
    · obtain rfl : j = n := by omega
      go_wp2_with fail
      go_ret
      exact ⟨rfl, hown.mixed, hb⟩

set_option maxHeartbeats 800000 in
set_option maxRecDepth 100000 in
theorem heldN (O : Option Addr) (n d B s : Nat) (m a c : Nat → Nat) (w : World) (hn : n ≤ 65536) (hm : mk s m n ≤ 1048576) (ha : RdN w B O n m a c (mkf s m)) :
    Calls Try.prog 57 #[.slice O n d, .int .i64 s] w fun en w' => en = .returned (.int .i64 (mk s m n : Nat)) ∧ w = w' := by
  have HA := Lib.hid ha
  clear ha
  go_enter Try.func57, Try.ntmps57
  go_wp2
  go_loop [1, 5] (fun q i => ∃ j : Nat, j ≤ n ∧ i = .int .i64 j ∧ q = .int .i64 (mk s m j : Nat)) (fun _ i => n - (intOf i).toNat)
  case atStart => exact ⟨0, Nat.zero_le _, rfl, rfl⟩
  case round =>
    obtain ⟨j, hj, rfl, rfl⟩ := hrel
    by_cases hlt : j < n
    · obtain ⟨ad, rfl, _, hc0⟩ := HA.out.1.at_ hlt
      have hkm : mk s m j + m j ≤ mk s m n := mk_le s m n (j + 1) (by omega)
      have HMM := Lib.hid (heldI (some ⟨a j, 0, none⟩) (m j) (c j) B (mk s m j) w (by omega) (HA.out.2 j hlt))
      have HE := Lib.hid (show mk s m (j + 1) = mk s m j + m j from rfl)
      have hk0 : (0 : Int) ≤ j := by omega
      have hk1 : (j : Int) < n := by omega
      unfold orow at hc0
      go_wp2_with fail
      refine HMM.out.mono ?_
      rintro e w' ⟨rfl, rfl⟩
      clear HMM
      go_wp2_with fail
      go_round
      case rel => exact ⟨j + 1, by omega, by go_num, by rw [HE.out]; go_num⟩
      case measure => simp [intOf]; omega
    · obtain rfl : j = n := by omega
      go_wp2_with fail
      go_ret
      exact ⟨rfl, rfl⟩

end Go.Proofs.Ytkjmlpdbnnmlhaa.nestI
