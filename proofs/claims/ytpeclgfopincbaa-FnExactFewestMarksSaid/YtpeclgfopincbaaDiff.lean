/- The differences of marks, as a rising list. -/
import Derived.Test.YtpeclgfopincbaaRows
import Derived.Test.YtpeclgfopincbaaSlc
import Derived.Test.YtpeclgfopincbaaSmall
import Derived.Test.YtpeclgfopincbaaListI
import Derived.Test.YtpeclgfopincbaaMarks
import Derived.Test.YtpeclgfopincbaaPut
import Derived.WalkKit
import Derived.ProofKit
import Derived.OpenShut
import Derived.ShutString
import Derived.ChangeOld
import Derived.Below
import Derived.Lib.Hide
import Derived.BigQuiet
import Derived.Deep.QuietTactic
import Derived.WalkLawsBesides
import Derived.Outline
import Derived.Deep.QuietTactic
import Derived.BigQuiet
import Derived.Deep.LoopGhost
import Derived.Deep.RegionHeld3
namespace Go.Proofs.Ytpeclgfopincbaa.diff
open Go.ChangeShapes Go.WideShapes Go.ChangeAt Go.RowKit
open Go.ChangeMaps (open_string shut_string)
set_option linter.unusedVariables false
open Go Go.RowKit
open Go.Proofs.Ytpeclgfopincbaa.slc Go.Proofs.Ytpeclgfopincbaa.small Go.Proofs.Ytpeclgfopincbaa.listI Go.Proofs.Ytpeclgfopincbaa.marks Go.Proofs.Ytpeclgfopincbaa.put

def dif (xs : List Int) (a b : Nat) : Int := xs.getD a 0 - xs.getD b 0
theorem dif_at (xs : List Int) (a b : Nat) (ha : a < xs.length) (hb : b < xs.length) : dif xs a b = xs[a] - xs[b] := by simp [dif, List.getD, ha, hb]
/-- The differences of all marks before i, and of i with those before k. -/
def pd (xs : List Int) (i k : Nat) : List Int :=
  (List.range i).flatMap (fun a : Nat => (List.range (a + 1)).map fun b : Nat => dif xs a b) ++ (List.range k).map fun b : Nat => dif xs i b
theorem pd_next (xs : List Int) (i k : Nat) : pd xs i (k + 1) = pd xs i k ++ [dif xs i k] := by simp [pd, List.range_succ]
theorem pd_row (xs : List Int) (i : Nat) : pd xs i (i + 1) = pd xs (i + 1) 0 := by
  unfold pd
  rw [List.range_succ (n := i), List.flatMap_append]
  simp [List.range_succ]
theorem pd_mem (xs : List Int) (n : Nat) (y : Int) : y ∈ pd xs n 0 ↔ ∃ a b, a < n ∧ b ≤ a ∧ y = dif xs a b := by
  unfold pd
  simp only [List.range_zero, List.map_nil, List.append_nil, List.mem_flatMap, List.mem_range, List.mem_map]
  constructor
  · rintro ⟨a, ha, b, hb, rfl⟩; exact ⟨a, b, ha, by omega, rfl⟩
  · rintro ⟨a, b, ha, hb, rfl⟩; exact ⟨a, ha, b, by omega, rfl⟩
/-- The same as a rising list. -/
def dl (xs : List Int) (i k : Nat) : List Int := (pd xs i k).foldl (fun l d => put d l) []
theorem dl_next (xs : List Int) (i k : Nat) : dl xs i (k + 1) = put (dif xs i k) (dl xs i k) := by
  unfold dl; rw [pd_next, List.foldl_append]; rfl
theorem dl_row (xs : List Int) (i : Nat) : dl xs i (i + 1) = dl xs (i + 1) 0 := by unfold dl; rw [pd_row]
theorem dl_mem (xs : List Int) (i k : Nat) (y : Int) : y ∈ dl xs i k ↔ y ∈ pd xs i k := by
  have key : ∀ (l acc : List Int), y ∈ l.foldl (fun l d => put d l) acc ↔ y ∈ acc ∨ y ∈ l := by
    intro l
    induction l with
    | nil => intro acc; simp
    | cons d t ih =>
      intro acc
      rw [List.foldl_cons, ih, put_mem, List.mem_cons]
      constructor
      · rintro ((h | h) | h)
        · exact .inr (.inl h)
        · exact .inl h
        · exact .inr (.inr h)
      · rintro (h | h | h)
        · exact .inl (.inr h)
        · exact .inl (.inl h)
        · exact .inr h
  unfold dl
  rw [key]
  simp
theorem dl_rises (xs : List Int) (i k : Nat) : (dl xs i k).Pairwise (· < ·) := by
  have key : ∀ (l acc : List Int), acc.Pairwise (· < ·) → (l.foldl (fun l d => put d l) acc).Pairwise (· < ·) := by
    intro l
    induction l with
    | nil => intro acc h; exact h
    | cons d t ih => intro acc h; exact ih _ (put_rises d acc h)
  exact key _ _ List.Pairwise.nil

set_option maxHeartbeats 1000000 in
set_option maxRecDepth 100000 in
theorem dl_c (A : Option Addr) (c B : Nat) (xs : List Int) (w : World) (hv : mB xs = true) (hr : Rd w B A xs.length (fun j => (ints xs).getD j undef)) (hB : B ≤ w.heap.size) :
    Calls Try.prog 237 #[.slice A xs.length c] w fun e w' => ∃ A' c', e = .returned (.slice A' (dl xs xs.length 0).length c') ∧ w'.ownsRow w.heap.size 2 1 (.slice A' (dl xs xs.length 0).length c') (dl xs xs.length 0).length (ints (dl xs xs.length 0)) ∧ w.grownBy w' none ∧ (dl xs xs.length 0).length ≤ 272 := by
  have hl16 := (mB_yes hv).2.1
  have hbd := (mB_yes hv).2.2.1
  have HBD := Lib.hid hbd
  clear hv hbd
  go_enter Try.func237, Try.ntmps237
  go_wp2_with fail
  go_loopw [3, 4] (fun v i wr => ∃ k : Nat, k ≤ xs.length ∧ i = .int .i64 k ∧ (dl xs k 0).length ≤ k * 17 ∧ wr.ownsRow w.heap.size 2 1 v (dl xs k 0).length (ints (dl xs k 0)) ∧ w.grownBy wr none) (fun _ i _ => xs.length - (intOf i).toNat)
  case atStart => exact ⟨0, Nat.zero_le _, rfl, by simp [dl, pd], World.ownsRow_lit w #[] 0 (Nat.le_refl _) (Nat.zero_le _) rfl, World.grownBy_alloc _ _ _⟩
  case round =>
    obtain ⟨k, hk, rfl, hlen, hown, hg⟩ := hrel
    by_cases hlt : k < xs.length
    · go_wp2_with fail
      obtain ⟨wo, rfl⟩ : ∃ wo : World, wo = wr := ⟨_, rfl⟩
      go_loopw [3, 5] (fun v j wi => ∃ m : Nat, m ≤ k + 1 ∧ j = .int .i64 m ∧ (dl xs k m).length ≤ k * 17 + m ∧ wi.ownsRow w.heap.size 2 1 v (dl xs k m).length (ints (dl xs k m)) ∧ w.grownBy wi none) (fun _ j _ => k + 1 - (intOf j).toNat)
      case atStart => exact ⟨0, Nat.zero_le _, rfl, by omega, hown, hg⟩
      case round =>
        obtain ⟨m, hm, rfl, hlen, hown, hg⟩ := hrel
        obtain ⟨A', c', rfl⟩ := own_form hown
        by_cases hmk : m ≤ k
        · obtain ⟨ad, rfl, _, hc⟩ := (hr.kept0 hg hB).at_ hlt
          obtain ⟨bd, e, _, hd⟩ := (hr.kept0 hg hB).at_ (show m < xs.length by omega)
          injection e with e
          subst e
          rw [ints_getD xs k hlt] at hc
          rw [ints_getD xs m (by omega)] at hd
          have b1 := HBD.out xs[k] (List.getElem_mem hlt)
          have b2 := HBD.out xs[m] (List.getElem_mem (show m < xs.length by omega))
          have hs := dl_next xs k m
          rw [dif_at xs k m hlt (by omega)] at hs
          have hpl := put_len (xs[k] - xs[m]) (dl xs k m)
          have HS := Lib.hid hs
          have k0 : (0 : Int) ≤ k := by omega
          have k1 : (k : Int) < xs.length := by omega
          have m0 : (0 : Int) ≤ m := by omega
          have m1 : (m : Int) < xs.length := by omega
          have hdl : (dl xs k m).length ≤ 65536 := by omega
          have HR := Rd.of_own hown (Nat.mul_one _).symm
          have hgs := hg.size
          clear hs
          go_wp2
          have hwr : IntKind.i64.wrap (xs[k] - xs[m]) = xs[k] - xs[m] := IntWalk.i64_in _ (by omega)
          go_region_held3 (fun w' => w'.cell? (ad.add k) = some (.int .i64 xs[k]) ∧ w'.cell? (ad.add m) = some (.int .i64 xs[m]))
            (first
              | go_keep
              | (go_split_ands
                 exact ⟨hg5.cell (by assumption) (by simp), hg5.cell (by assumption) (by simp)⟩))
            ((go_at_call 127; refine (put_c _ _ _ (dl xs k m) (xs[k] - xs[m]) _ hdl (HR.drewN 1) (Nat.le_refl _)).mono ?_; rintro e w5 ⟨A5, c5, rfl, ho5, hg5⟩))
          clear hwr
          have hg6 := hg.trans ((gb_drewN _ 1 _).trans hg5)
          have ho6 := own_mono ho5 (b' := w.heap.size) hgs
          go_wp2
          go_roundw
          case rel => exact ⟨m + 1, by omega, by go_num, by rw [HS.out]; omega, by rw [HS.out]; exact ho6, hg6⟩
          case measure => simp [intOf]; omega
        · obtain rfl : m = k + 1 := by omega
          rw [dl_row] at hown hlen
          rw [dl_row]
          go_wp2
          go_roundw
          case rel => exact ⟨k + 1, by omega, by go_num, by omega, hown, hg⟩
          case measure => simp [intOf]; omega
    · obtain rfl : k = xs.length := by omega
      obtain ⟨A', c', rfl⟩ := own_form hown
      go_wp2
      go_ret
      exact ⟨_, _, rfl, hown, hg, by omega⟩

end Go.Proofs.Ytpeclgfopincbaa.diff
