/- isShortRuler by the program: bits of a number instead of a set. -/
import Derived.Test.YtpmjheofjmdfeaaRows
import Derived.Test.YtpmjheofjmdfeaaSlc
import Derived.Test.YtpmjheofjmdfeaaSmall
import Derived.Test.YtpmjheofjmdfeaaListI
import Derived.Test.YtpmjheofjmdfeaaMarks
import Derived.Test.YtpmjheofjmdfeaaPut
import Derived.Test.YtpmjheofjmdfeaaDiff
import Derived.Test.YtpmjheofjmdfeaaISet
import Derived.Test.YtpmjheofjmdfeaaISize
import Derived.Test.YtpmjheofjmdfeaaHoles
import Derived.Test.YtpmjheofjmdfeaaRuler
import Derived.Test.YtpmjheofjmdfeaaSearch
import Derived.Test.YtpmjheofjmdfeaaExt
import Derived.Test.YtpmjheofjmdfeaaRulN
import Derived.WalkKit
import Derived.ProofKit
import Derived.OpenShut
import Derived.ShutString
import Derived.ChangeOld
import Derived.Below
import Derived.Lib.Hide
import Derived.BigQuiet
import Derived.Deep.QuietTactic
import Derived.WalkLawsBesides
import Derived.Outline
import Derived.RangeFuncBox
import Derived.Deep.QuietTactic
import Derived.BigQuiet
import Derived.Deep.LoopGhost
import Derived.Deep.RegionWith
import Derived.Laws.Bits64b
namespace Go.Proofs.Ytpmjheofjmdfeaa.shortR
open Go.ChangeShapes Go.WideShapes Go.ChangeAt Go.RowKit
open Go.ChangeMaps (open_string shut_string)
set_option linter.unusedVariables false
open Go Go.RowKit
open Go.Proofs.Ytpmjheofjmdfeaa.slc Go.Proofs.Ytpmjheofjmdfeaa.small Go.Proofs.Ytpmjheofjmdfeaa.listI Go.Proofs.Ytpmjheofjmdfeaa.diff Go.Proofs.Ytpmjheofjmdfeaa.ruler Go.Proofs.Ytpmjheofjmdfeaa.search Go.Proofs.Ytpmjheofjmdfeaa.ext Go.Proofs.Ytpmjheofjmdfeaa.rulN

/-- A set of small numbers as bits. -/
def sN (L : List Int) : Nat := L.foldl (fun a d => a ||| 2 ^ d.toNat) 0
theorem sN_snoc (L : List Int) (d : Int) : sN (L ++ [d]) = sN L ||| 2 ^ d.toNat := by simp [sN]
theorem sN_nil : sN [] = 0 := rfl
theorem rev_ind {P : List Int → Prop} (h0 : P []) (h1 : ∀ l d, P l → P (l ++ [d])) : ∀ l, P l := fun l => by
  have : ∀ m : List Int, P m.reverse := by
    intro m
    induction m with
    | nil => exact h0
    | cons a m ih => rw [List.reverse_cons]; exact h1 _ _ ih
  have h := this l.reverse
  rwa [List.reverse_reverse] at h
theorem sN_bit (L : List Int) : (∀ x ∈ L, 0 ≤ x) → ∀ d : Int, 0 ≤ d → (sN L).testBit d.toNat = decide (d ∈ L) := by
  refine rev_ind (P := fun L => (∀ x ∈ L, 0 ≤ x) → ∀ d : Int, 0 ≤ d → (sN L).testBit d.toNat = decide (d ∈ L)) ?_ ?_ L
  · intro _ d _; simp [sN_nil]
  · intro l e ih h d hd
    have he := h e (by simp)
    rw [sN_snoc, Nat.testBit_or, Nat.testBit_two_pow, ih (fun x hx => h x (by simp [hx])) d hd]
    by_cases h1 : d ∈ l
    · simp [h1]
    · by_cases h2 : d = e
      · subst h2; simp
      · have : ¬ e.toNat = d.toNat := by omega
        simp [h1, h2, this]
theorem sN_lt (L : List Int) : (∀ x ∈ L, x ≤ 30) → sN L < 2147483648 := by
  refine rev_ind (P := fun L => (∀ x ∈ L, x ≤ 30) → sN L < 2147483648) ?_ ?_ L
  · intro _; rw [sN_nil]; decide
  · intro l e ih h
    rw [sN_snoc]
    have h1 := ih (fun x hx => h x (by simp [hx]))
    have h2 := h e (by simp)
    have h3 : (2 : Nat) ^ e.toNat < 2 ^ 31 := Nat.pow_lt_pow_right (by decide) (by omega)
    rw [show (2147483648 : Nat) = 2 ^ 31 from rfl] at h1 ⊢
    exact Nat.or_lt_two_pow h1 h3
theorem and_pow (n i : Nat) : n &&& 2 ^ i = if n.testBit i = true then 2 ^ i else 0 := by
  apply Nat.eq_of_testBit_eq
  intro j
  rw [Nat.testBit_and, Nat.testBit_two_pow]
  by_cases e : i = j
  · subst e
    cases h : n.testBit i <;> simp
  · split <;> simp [e]
theorem and_yes {L : List Int} {d : Int} (h0 : ∀ x ∈ L, 0 ≤ x) (hd : 0 ≤ d) (h : d ∈ L) : sN L &&& 2 ^ d.toNat = 2 ^ d.toNat := by
  have hb : (sN L).testBit d.toNat = true := by rw [sN_bit L h0 d hd]; exact decide_eq_true h
  rw [and_pow, if_pos hb]
theorem and_no {L : List Int} {d : Int} (h0 : ∀ x ∈ L, 0 ≤ x) (hd : 0 ≤ d) (h : d ∉ L) : sN L &&& 2 ^ d.toNat = 0 := by
  have hb : (sN L).testBit d.toNat = false := by rw [sN_bit L h0 d hd]; exact decide_eq_false h
  rw [and_pow, if_neg (by rw [hb]; simp)]
theorem pow_small (q : Nat) (hq : q ≤ 30) : 2 ^ q < 2147483648 := by
  have : (2 : Nat) ^ q < 2 ^ 31 := Nat.pow_lt_pow_right (by decide) (by omega)
  rwa [show (2 : Nat) ^ 31 = 2147483648 from rfl] at this
theorem bit_step (N q : Nat) (hN : N < 2147483648) (hq : q ≤ 30) : bits .and .u64 (N : Int) ((2 ^ q : Nat) : Int) = ((N &&& 2 ^ q : Nat) : Int) ∧ bits .or .u64 (N : Int) ((2 ^ q : Nat) : Int) = ((N ||| 2 ^ q : Nat) : Int) ∧ IntKind.u64.wrap (1 * 2 ^ q) = ((2 ^ q : Nat) : Int) ∧ min q 64 = q := by
  have h1 := pow_small q hq
  refine ⟨bits_and_u64_nat N (2 ^ q) (by omega) (by omega), bits_or_u64_nat N (2 ^ q) (by omega) (by omega), ?_, by omega⟩
  have e : ((1 : Int) * 2 ^ q) = ((2 ^ q : Nat) : Int) := by simp
  rw [e, IntKind.wrap_u64]
  generalize 2 ^ q = M at *
  omega
theorem pq_bd {xs : List Int} {last : Int} (hg : GoodM last xs) : ∀ (i k : Nat), i < xs.length → k ≤ i → ∀ y ∈ pq xs i k, 0 < y ∧ y ≤ last := by
  intro i k hi hk y hy
  have hb : ∀ a b, a < xs.length → b < a → 0 < dif xs a b ∧ dif xs a b ≤ last := fun a b ha hb => by
    have h1 := dif_pos' hg.2.1 ha hb
    have hbl : b < xs.length := by omega
    rw [dif_at xs a b ha hbl] at h1 ⊢
    have h2 := hg.2.2 _ (List.getElem_mem ha)
    have h3 := hg.2.2 _ (List.getElem_mem hbl)
    omega
  rcases List.mem_append.1 hy with h | h
  · obtain ⟨a, ha, h⟩ := List.mem_flatMap.1 h
    obtain ⟨b, hb2, rfl⟩ := List.mem_map.1 h
    exact hb a b (by have := List.mem_range.1 ha; omega) (List.mem_range.1 hb2)
  · obtain ⟨b, hb2, rfl⟩ := List.mem_map.1 h
    exact hb i b hi (by have := List.mem_range.1 hb2; omega)
theorem pq_sub {xs : List Int} {n : Nat} : ∀ i k, (i < n ∧ k ≤ i) → (pq xs n 0).Nodup → (pq xs i k).Nodup := by
  intro i k h hn
  have e : ∃ r, pq xs n 0 = pq xs i k ++ r := by
    have h1 : ∀ j, ∃ r, pq xs i (k + j) = pq xs i k ++ r := by
      intro j
      induction j with
      | zero => exact ⟨[], by simp⟩
      | succ j ih =>
        obtain ⟨r, hr⟩ := ih
        exact ⟨r ++ [dif xs i (k + j)], by rw [← Nat.add_assoc, pq_next, hr, List.append_assoc]⟩
    have h2 : ∀ m, ∃ r, pq xs (i + 1 + m) 0 = pq xs (i + 1) 0 ++ r := by
      intro m
      induction m with
      | zero => exact ⟨[], by simp⟩
      | succ m ih =>
        obtain ⟨r, hr⟩ := ih
        have h3 : ∀ k, ∃ r, pq xs (i + 1 + m) k = pq xs (i + 1 + m) 0 ++ r := by
          intro k
          induction k with
          | zero => exact ⟨[], by simp⟩
          | succ k ih =>
            obtain ⟨r, hr⟩ := ih
            exact ⟨r ++ [dif xs (i + 1 + m) k], by rw [pq_next, hr, List.append_assoc]⟩
        obtain ⟨r2, hr2⟩ := h3 (i + 1 + m)
        exact ⟨r ++ r2, by rw [show i + 1 + (m + 1) = (i + 1 + m) + 1 by omega, ← pq_row, hr2, hr, List.append_assoc]⟩
    obtain ⟨r1, hr1⟩ := h1 (i - k)
    obtain ⟨r2, hr2⟩ := h2 (n - (i + 1))
    rw [show k + (i - k) = i by omega, pq_row] at hr1
    rw [show i + 1 + (n - (i + 1)) = n by omega] at hr2
    exact ⟨r1 ++ r2, by rw [hr2, hr1, List.append_assoc]⟩
  obtain ⟨r, hr⟩ := e
  rw [hr] at hn
  exact (List.nodup_append.1 hn).1

/-- A shift, told apart: the walk is not to lay it open. -/
def shlS (t : TypeId) (x y : Value) : Sem Value := binOp .shl t x y
theorem shl_stop (t : TypeId) (x y : Value) : binOp .shl t x y = shlS t x y := rfl
theorem run_shl1 (w : World) (t : TypeId) (q : Nat) (hq : q ≤ 30) : (binOp .shl t (.int .u64 1) (.int .i64 (q : Int))).run Try.prog w = .ok (.int .u64 ((2 ^ q : Nat) : Int)) w := by
  have h := (bit_step 0 q (by decide) hq).2.2
  show (Op.shift .shl .u64 1 .i64 (q : Int)).run Try.prog w = _
  unfold Op.shift
  rw [if_neg (by omega)]
  show (pure (Value.int .u64 (IntKind.u64.wrap (1 * 2 ^ min q 64))) : Sem Value).run Try.prog w = _
  rw [h.2, h.1]
  rfl
/-- One step of the bits: a number M with one bit. -/
theorem step_all (L : List Int) (q : Nat) (h0 : ∀ x ∈ L, 0 < x ∧ x ≤ 30) (hq : q ≤ 30) : ∃ M : Nat, (∀ w t, (shlS t (.int .u64 1) (.int .i64 (q : Int))).run Try.prog w = .ok (.int .u64 (M : Int)) w) ∧ bits .or .u64 ((sN L : Nat) : Int) (M : Int) = ((sN (L ++ [(q : Int)]) : Nat) : Int) ∧
    ∃ v : Int, bits .and .u64 ((sN L : Nat) : Int) (M : Int) = v ∧ (((q : Int) ∈ L ∧ (v != 0) = true) ∨ ((q : Int) ∉ L ∧ (v != 0) = false)) := by
  have hlt := sN_lt L (fun x hx => (h0 x hx).2)
  obtain ⟨h1, h2, _, _⟩ := bit_step (sN L) q hlt hq
  refine ⟨2 ^ q, fun w t => run_shl1 w t q hq, ?_, _, h1, ?_⟩
  · rw [h2, sN_snoc]; rfl
  · by_cases h : (q : Int) ∈ L
    · refine .inl ⟨h, ?_⟩
      have := and_yes (fun x hx => by have := (h0 x hx).1; omega) (show (0 : Int) ≤ (q : Int) by omega) h
      rw [show ((q : Nat) : Int).toNat = q by omega] at this
      rw [this]
      have h3 : 0 < 2 ^ q := Nat.pow_pos (by decide)
      generalize 2 ^ q = M at *
      simp
      omega
    · refine .inr ⟨h, ?_⟩
      have := and_no (fun x hx => by have := (h0 x hx).1; omega) (show (0 : Int) ≤ (q : Int) by omega) h
      rw [show ((q : Nat) : Int).toNat = q by omega] at this
      rw [this]
      rfl

attribute [local go_sem ↓] shl_stop
set_option maxRecDepth 100000 in
set_option maxHeartbeats 2000000 in
theorem short_c (ad : Addr) (c B n : Nat) (xs : List Int) (last : Int) (w : World) (hn : xs.length = n) (h16 : n ≤ 16) (h1 : 1 ≤ n) (hc : n ≤ c) (hlast : last ≤ 30) (hg : GoodM last xs) (hB : B ≤ w.heap.size) (hr : Rd w B (some ad) n (fun j => (ints xs).getD j undef)) :
    Calls Try.prog 118 #[.slice (some ad) n c] w fun e w' => e = .returned (.bool (rB xs)) ∧ w.grownBy w' none := by
  have hrb := rB_iff hg.2.1 hg.1
  rw [hn] at hrb
  have HR := Lib.hid hrb
  have hc0 : ∀ (j : Nat) (h : j < n) (wr : World), w.grownBy wr none → wr.cell? (ad.add j) = some (.int .i64 (xs.getD j 0)) := fun j h wr g => by
    obtain ⟨ad2, e, _, h2⟩ := (hr.kept0 g hB).at_ h
    injection e with e
    subst e
    rw [h2, ints_getD xs j (by omega)]
    simp [List.getD, show j < xs.length by omega]
  have HC := Lib.hid hc0
  clear hrb hr hc0
  go_enter Try.func118, Try.ntmps118
  go_wp2_with fail
  go_loopw [3, 11] (fun se i wr => ∃ i0 : Nat, i0 ≤ n ∧ i = .int .i64 i0 ∧ se = .int .u64 (sN (pq xs i0 0) : Nat) ∧ (pq xs i0 0).Nodup ∧ w.grownBy wr none) (fun _ i _ => n - (intOf i).toNat)
  case atStart => exact ⟨0, Nat.zero_le _, rfl, rfl, List.nodup_nil, World.grownBy.refl _ _⟩
  case round =>
    obtain ⟨i, hi, rfl, rfl, hnd, hgr⟩ := hrel
    by_cases hlt : i < n
    · have ci := HC.out i hlt wr hgr
      have i0 : (0 : Int) ≤ (i : Int) := by omega
      have i1 : (i : Int) < n := by omega
      have i2 : (i : Int) ≤ c := by omega
      have i3 : i ≤ c := by omega
      have HND := Lib.hid hnd
      clear hnd
      generalize hxi : xs.getD i 0 = xi at *
      have HXI := Lib.hid hxi
      clear hxi
      go_wp2_with fail
      go_loopw [3, 20] (fun se k wi => ∃ k0 : Nat, k0 ≤ i ∧ k = .int .i64 k0 ∧ se = .int .u64 (sN (pq xs i k0) : Nat) ∧ (pq xs i k0).Nodup ∧ w.grownBy wi none) (fun _ k _ => n - (intOf k).toNat)
      case atStart => exact ⟨0, Nat.zero_le _, rfl, rfl, HND.out, hgr⟩
      case round =>
        obtain ⟨k, hk, rfl, rfl, hnd, hgk⟩ := hrel
        by_cases hkt : k < i
        · have ck := HC.out k (by omega) wr hgk
          have hd : dif xs i k = xi - xs.getD k 0 := by rw [← HXI.out]; rfl
          have hd2 := pq_bd hg i (k + 1) (by omega) (by omega) (dif xs i k) (by rw [pq_next]; simp)
          have hbd := pq_bd hg i k (by omega) (by omega)
          have hnd2 : (pq xs i (k + 1)).Nodup ↔ (pq xs i k).Nodup ∧ dif xs i k ∉ pq xs i k := by rw [pq_next]; exact nodup_snoc
          have hsub := pq_sub (xs := xs) (n := n) i (k + 1) ⟨hlt, by omega⟩
          have hnx : pq xs i (k + 1) = pq xs i k ++ [dif xs i k] := pq_next xs i k
          rw [hd] at hd2 hnd2 hnx
          have HNX := Lib.hid hnx
          have HN2 := Lib.hid hnd2
          have HSB := Lib.hid hsub
          have HND2 := Lib.hid hnd
          generalize hxk : xs.getD k 0 = xk at *
          generalize hdd : xi - xk = d at *
          obtain ⟨q, rfl⟩ : ∃ q : Nat, d = (q : Int) := ⟨d.toNat, by omega⟩
          obtain ⟨M, hshl, hor, v, hand, hv⟩ := step_all (pq xs i k) q (fun x hx => by have := hbd x hx; omega) (by omega)
          rw [← HNX.out] at hor
          have HOR := Lib.hid hor
          have HAND := Lib.hid hand
          clear hxk hd hnx hnd2 hsub hnd hbd hor hand
          have k0 : (0 : Int) ≤ (k : Int) := by omega
          have k1 : (k : Int) < i := by omega
          have q0 : (0 : Int) ≤ (q : Int) := by omega
          have HW1 := Lib.hid (show wrap64 (q : Int) = (q : Int) by unfold wrap64; omega)
          have HGK := Lib.hid hgk
          clear hgk hd2
          generalize sN (pq xs i k) = SN at *
          generalize hS2 : sN (pq xs i (k + 1)) = S2 at *
          have HS2 := Lib.hid hS2
          clear hS2
          rcases hv with ⟨hin, hne⟩ | ⟨hin, hne⟩
          · have hfin : rB xs = false := by
              cases hb : rB xs with
              | false => rfl
              | true => exact absurd hin (HN2.out.1 (HSB.out (HR.out.1 hb))).2
            have HFI := Lib.hid hfin
            clear hin hfin HOR HNX HN2 HSB HND2
            have hand := HAND.out
            have hw1 := HW1.out
            clear HAND
            go_wp2_with fail
            go_ret
            exact ⟨by rw [HFI.out]; rfl, HGK.out⟩
          · have HND3 := Lib.hid (HN2.out.2 ⟨HND2.out, hin⟩)
            clear hin HNX HN2 HSB HND2
            have hand := HAND.out
            have hor := HOR.out
            have hw1 := HW1.out
            clear HAND HOR
            go_wp2_with fail
            clear hand hor hshl hw1
            go_roundw
            case rel => exact ⟨k + 1, by omega, by go_num, by rw [HS2.out], HND3.out, HGK.out⟩
            case measure => simp [intOf]; omega
        · obtain rfl : i = k := by omega
          rw [pq_row] at hnd
          have HSE := Lib.hid (show pq xs i i = pq xs (i + 1) 0 from pq_row xs i)
          have HND4 := Lib.hid hnd
          clear hnd
          generalize hS : sN (pq xs i i) = S at *
          have HS := Lib.hid hS
          clear hS
          go_wp2_with fail
          go_roundw
          case rel => exact ⟨i + 1, by omega, by go_num, by rw [← HSE.out, HS.out], HND4.out, hgk⟩
          case measure => simp [intOf]; omega
    · obtain rfl : n = i := by omega
      have hfin : rB xs = true := HR.out.2 hnd
      have HFI := Lib.hid hfin
      clear hnd hfin
      generalize sN (pq xs n 0) = S at *
      go_wp2_with fail
      go_ret
      exact ⟨by rw [HFI.out]; rfl, hgr⟩

end Go.Proofs.Ytpmjheofjmdfeaa.shortR
