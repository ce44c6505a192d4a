/- The phases of a wave: bounds. -/
import Derived.Test.YtbefoiikbbjjfaaSlc
import Derived.Test.YtbefoiikbbjjfaaSmall
import Derived.Test.YtbefoiikbbjjfaaOpens
import Derived.Test.YtbefoiikbbjjfaaFloatAll
import Derived.Test.YtbefoiikbbjjfaaFWalk
import Derived.Test.YtbefoiikbbjjfaaFinWalk
import Derived.Test.YtbefoiikbbjjfaaFlAll
import Derived.Test.YtbefoiikbbjjfaaPhasor
import Derived.Test.YtbefoiikbbjjfaaListC
import Derived.Deep.LoopGhost
namespace Go.Proofs.Ytbefoiikbbjjfaa.steerNum
set_option linter.unusedVariables false
open Go Ieee Go.RowKit
open Go.Proofs.Ytbefoiikbbjjfaa.slc Go.Proofs.Ytbefoiikbbjjfaa.small Go.Proofs.Ytbefoiikbbjjfaa.opens Go.Proofs.Ytbefoiikbbjjfaa.floats Go.Proofs.Ytbefoiikbbjjfaa.round Go.Proofs.Ytbefoiikbbjjfaa.values Go.Proofs.Ytbefoiikbbjjfaa.conv Go.Proofs.Ytbefoiikbbjjfaa.fWalk Go.Proofs.Ytbefoiikbbjjfaa.finWalk Go.Proofs.Ytbefoiikbbjjfaa.float2 Go.Proofs.Ytbefoiikbbjjfaa.float3 Go.Proofs.Ytbefoiikbbjjfaa.phase Go.Proofs.Ytbefoiikbbjjfaa.sine Go.Proofs.Ytbefoiikbbjjfaa.phasor Go.Proofs.Ytbefoiikbbjjfaa.listC

/-- Steps as turns. -/
def sx (n : Int) : Nat := bv .quo (floatOfInt .f64 n) 4661225614328463360
theorem F_4096 : FinW double 4661225614328463360 := by unfold FinW; decide +kernel
theorem V_4096 : V double 4661225614328463360 = 4096 * (4 * (q64 : Int)) := by decide +kernel
theorem quo_lt {x y r : Nat} (hx : FinW double x) (hy : FinW double y) (hy0 : V double y ≠ 0) (h : floatBits .quo .f64 x y = some r) : r < 2 * double.signWeight := by
  obtain ⟨m, i, ex, _⟩ := read_fin double hx
  obtain ⟨n, j, ey, vy⟩ := read_fin double hy
  have hn : n ≠ 0 := by
    rintro rfl
    apply hy0
    rw [V_read vy]
    simp [sg]
  have h' : double.div x y = some r := h
  unfold Format.div at h'
  rw [ex, ey] at h'
  unfold Datum.quotient at h'
  dsimp only at h'
  rw [if_neg hn] at h'
  simp only [Option.map_some, Option.some.injEq] at h'
  rw [← h']
  exact nearest_lt _ _ _
theorem sx_ok (n : Int) (h : n.natAbs ≤ 524288) : floatBits .quo .f64 (floatOfInt .f64 n) 4661225614328463360 = some (sx n) ∧ FinW double (sx n) ∧ (V double (sx n)).natAbs < 4503599627370496 * (4 * q64) ∧ ((sx n : Nat) : Int) ≤ 18446744073709551615 := by
  have hd := D64_is
  have e : floatOfInt .f64 n = double.nearest (decide (n < 0)) n.natAbs 0 := rfl
  obtain ⟨f1, f2⟩ := float_int (decide (n < 0)) n.natAbs (Nat.le_trans h (by decide))
  rw [← e] at f1 f2
  have hb : Bd (floatOfInt .f64 n) (D64 + 19) := by
    refine ⟨f1, ?_⟩
    rw [f2, sg_abs, four_q, Nat.pow_add, Nat.mul_comm]
    exact Nat.mul_le_mul_left _ (Nat.le_trans h (by decide))
  have h1 : 2 ^ D64 ≤ (V double 4661225614328463360).natAbs := by
    rw [V_4096, ← four_q]
    omega
  obtain ⟨r, hr, hbr⟩ := bd_quo hb F_4096 h1 (by omega) (by omega)
  have hlt := quo_lt f1 F_4096 (by rw [V_4096]; have := q64_pos; omega) hr
  obtain ⟨e1, e2⟩ := bv_some hr
  have e3 : sx n = r := e2
  refine ⟨e1, by rw [e3]; exact hbr.1, ?_, ?_⟩
  · rw [e3]
    refine Nat.lt_of_le_of_lt hbr.2 ?_
    rw [four_q, show D64 + 19 + 1 = 20 + D64 by omega, Nat.pow_add]
    exact Nat.mul_lt_mul_of_pos_right (by decide) (Nat.two_pow_pos _)
  · rw [e3]
    rw [sw64] at hlt
    omega

theorem qrun_ok : ∀ (k : Nat), k ≤ 4 → ∀ (j f : Nat), In4 f k → ∃ j' g, qrun (k + 1) j f = (j', g) ∧ In4 g 1
  | 0, _, j, f, h => ⟨j, f, by simp [qrun, h.small], ⟨h.fin, h.lt, h.lo, by have := h.small; omega⟩⟩
  | k + 1, hk, j, f, h => by
    by_cases hge : (q64 : Int) ≤ V double f
    · obtain ⟨j', g, e, hg⟩ := qrun_ok k (by omega) (j + 1) (qs f) (qs_ok h (by omega) hge).2
      exact ⟨j', g, by rw [← e]; simp [qrun, hge], hg⟩
    · exact ⟨j, f, by simp [qrun, hge], ⟨h.fin, h.lt, h.lo, by omega⟩⟩
theorem ph_bd {f : Nat} (h : In4 f 4) : Bd (ph64 f).1 (D64 + 34) ∧ Bd (ph64 f).2 (D64 + 34) := by
  obtain ⟨j, g, e, hg⟩ := qrun_ok 4 (by omega) 0 f h
  obtain ⟨_, c2⟩ := cos_ok hg
  have s2 := (sn_ok hg.bd).2
  have s4 := (sn_ok c2.bd).2
  have n2 := (neg_ok s2).2
  have n4 := (neg_ok s4).2
  have m2 := s2.mono (b := D64 + 34) (by omega)
  have m4 := s4.mono (b := D64 + 34) (by omega)
  unfold ph64 cosine
  rw [e]
  unfold turned
  dsimp only
  split
  · exact ⟨n2, m4⟩
  · split
    · exact ⟨n4, n2⟩
    · split
      · exact ⟨m2, n4⟩
      · exact ⟨m4, m2⟩
/-- The phase for so many steps. -/
def phz (n : Int) : Nat × Nat := (nw (ph64 (fr (sx n))).1, nw (ph64 (fr (sx n))).2)
theorem phz_fin (n : Int) (h : n.natAbs ≤ 524288) : FinW single (phz n).1 ∧ FinW single (phz n).2 := by
  obtain ⟨_, s1, s2, _⟩ := sx_ok n h
  obtain ⟨_, _, _, _, _, _, _, _, hi⟩ := fr_ok s1 s2
  obtain ⟨b1, b2⟩ := ph_bd hi
  exact ⟨(nw_ok b1).2, (nw_ok b2).2⟩
/-- The phases of a wave. -/
def stl (ps : List (Int × Int)) (u v : Int) : List (Nat × Nat) := ps.map fun p => phz (p.1 * u + p.2 * v)
theorem stl_len (ps : List (Int × Int)) (u v : Int) : (stl ps u v).length = ps.length := by simp [stl]
theorem stl_take (ps : List (Int × Int)) (u v : Int) (k : Nat) (hk : k < ps.length) : stl (ps.take (k + 1)) u v = stl (ps.take k) u v ++ [((phz (ps[k].1 * u + ps[k].2 * v)).1, (phz (ps[k].1 * u + ps[k].2 * v)).2)] := by
  unfold stl; rw [List.take_succ_eq_append_getElem hk, List.map_append]; rfl

end Go.Proofs.Ytbefoiikbbjjfaa.steerNum
