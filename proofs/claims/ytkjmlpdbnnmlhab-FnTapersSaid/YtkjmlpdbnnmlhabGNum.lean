/- Complex numbers with small integers as parts: sums and products are exact. -/
import Derived.Test.YtkjmlpdbnnmlhabSlc
import Derived.Test.YtkjmlpdbnnmlhabFloats
import Derived.Test.YtkjmlpdbnnmlhabRound
import Derived.Test.YtkjmlpdbnnmlhabValues
import Derived.Test.YtkjmlpdbnnmlhabConv
import Derived.Test.YtkjmlpdbnnmlhabFWalk
import Derived.Test.YtkjmlpdbnnmlhabFinWalk
import Derived.Test.YtkjmlpdbnnmlhabFloat2
import Derived.Test.YtkjmlpdbnnmlhabFloat3
import Derived.Test.YtkjmlpdbnnmlhabPhase
import Derived.Test.YtkjmlpdbnnmlhabSine
import Derived.Test.YtkjmlpdbnnmlhabPhasor
import Derived.Test.YtkjmlpdbnnmlhabListC
import Derived.Test.YtkjmlpdbnnmlhabSteerNum
import Derived.Test.YtkjmlpdbnnmlhabSineIn
import Derived.Test.YtkjmlpdbnnmlhabPolyNum
import Derived.Test.YtkjmlpdbnnmlhabGPoly
namespace Go.Proofs.Ytkjmlpdbnnmlhab.gNum
set_option linter.unusedVariables false
open Go Ieee
open Go.Proofs.Ytkjmlpdbnnmlhab.floats Go.Proofs.Ytkjmlpdbnnmlhab.round Go.Proofs.Ytkjmlpdbnnmlhab.values Go.Proofs.Ytkjmlpdbnnmlhab.conv Go.Proofs.Ytkjmlpdbnnmlhab.float2 Go.Proofs.Ytkjmlpdbnnmlhab.float3 Go.Proofs.Ytkjmlpdbnnmlhab.phase Go.Proofs.Ytkjmlpdbnnmlhab.phasor Go.Proofs.Ytkjmlpdbnnmlhab.listC Go.Proofs.Ytkjmlpdbnnmlhab.steerNum Go.Proofs.Ytkjmlpdbnnmlhab.sineIn Go.Proofs.Ytkjmlpdbnnmlhab.polyNum Go.Proofs.Ytkjmlpdbnnmlhab.gPoly

/-- x is finite, with the value k. -/
def S32 (x : Nat) (k : Int) : Prop := FinW single x ∧ V single x = k * 2 ^ 149
def S64 (x : Nat) (k : Int) : Prop := FinW double x ∧ V double x = k * 2 ^ D64
theorem pc (d : Nat) : (2 : Int) ^ d = ((2 ^ d : Nat) : Int) := by simp
theorem p1074 : (2 : Int) ^ 149 * 2 ^ 925 = 2 ^ D64 := by
  rw [← Int.pow_add]
  exact congrArg (fun n : Nat => (2 : Int) ^ n) (show 149 + 925 = D64 from rfl)
theorem k_abs (k : Int) (d : Nat) : (k * 2 ^ d).natAbs = k.natAbs * 2 ^ d := by rw [pc, Int.natAbs_mul, Int.natAbs_natCast]
theorem sg_k (k : Int) (d : Nat) : sg (decide (k < 0)) (k.natAbs * 2 ^ d) = k * 2 ^ d := by
  rw [sg_natAbs k _ (Or.inr rfl), pc]
theorem w64 (k : Int) (h : k.natAbs ≤ 2 ^ 52) : ∃ c, S64 c k := by
  obtain ⟨f1, f2⟩ := float_int (decide (k < 0)) k.natAbs h
  refine ⟨_, f1, ?_⟩
  rw [f2, four_q, sg_k]
theorem mv_block32 {L K : Nat} (h1 : 2 ^ 23 ≤ K) (h2 : K < 2 * 2 ^ 23) : mv single (L * 2 ^ 23 + K) = K * 2 ^ L := by
  unfold mv
  rw [bi32]
  have hp : 0 < 2 ^ 23 := Nat.two_pow_pos _
  generalize 2 ^ 23 = B at *
  have hd : (L * B + K) / B = L + 1 := by
    rw [Nat.add_comm, Nat.add_mul_div_right _ _ hp]
    have : K / B = 1 := Nat.div_eq_of_lt_le (by omega) (by omega)
    omega
  have hm : (L * B + K) % B = K - B := by
    rw [Nat.add_comm, Nat.add_mul_mod_self_right, Nat.mod_eq_sub_mod h1, Nat.mod_eq_of_lt (by omega)]
  rw [if_neg (by omega), hd, hm, Nat.add_sub_cancel, ← Nat.add_sub_assoc h1, Nat.add_sub_cancel_left]
theorem w32 (k : Int) (h : k.natAbs < 2 ^ 24) : ∃ c, S32 c k := by
  by_cases h0 : k = 0
  · subst h0
    exact ⟨0, by unfold FinW; decide +kernel, by rw [show V single 0 = 0 by decide +kernel, Int.zero_mul]⟩
  · have hn : k.natAbs ≠ 0 := by omega
    have l1 := Nat.log2_self_le hn
    have l2 : k.natAbs < 2 ^ (k.natAbs.log2 + 1) := Nat.lt_log2_self
    have l3 : k.natAbs.log2 < 24 := (Nat.log2_lt hn).2 h
    generalize hlg : k.natAbs.log2 = g at *
    have K1 : 2 ^ 23 ≤ k.natAbs * 2 ^ (23 - g) := by
      have := Nat.mul_le_mul_right (2 ^ (23 - g)) l1
      rwa [← Nat.pow_add, show g + (23 - g) = 23 by omega] at this
    have K2 : k.natAbs * 2 ^ (23 - g) < 2 * 2 ^ 23 := by
      have := Nat.mul_lt_mul_of_pos_right l2 (Nat.two_pow_pos (23 - g))
      rwa [← Nat.pow_add, show g + 1 + (23 - g) = 23 + 1 by omega, Nat.pow_succ, Nat.mul_comm (2 ^ 23)] at this
    have hm := mv_block32 (L := 126 + g) K1 K2
    rw [Nat.mul_assoc, ← Nat.pow_add, show 23 - g + (126 + g) = 149 by omega] at hm
    generalize hr : (126 + g) * 2 ^ 23 + k.natAbs * 2 ^ (23 - g) = r at *
    have hri : r < single.infRung := by
      rw [inf32, ← hr]
      omega
    have hsw := inf_lt_sw single
    refine ⟨single.word (decide (k < 0)) r, ?_, ?_⟩
    · unfold FinW
      rw [rg_word single _ (by omega)]
      exact hri
    · rw [V_word single _ (by omega), hm, sg_k]
theorem S32.zero : S32 0 0 := ⟨by unfold FinW; decide +kernel, by rw [show V single 0 = 0 by decide +kernel, Int.zero_mul]⟩
theorem S32.one : S32 1065353216 1 := ⟨by unfold FinW; decide +kernel, by rw [show V single 1065353216 = 2 ^ 149 by decide +kernel]; omega⟩
theorem S32.uniq {x : Nat} {a b : Int} (h : S32 x a) (h' : S32 x b) : a = b := by
  have e := h.2.symm.trans h'.2
  rw [pc] at e
  exact Int.eq_of_mul_eq_mul_right (by have := Nat.two_pow_pos 149; omega) e
theorem S32.bs {x : Nat} {k : Int} {e : Nat} (h : S32 x k) (hk : k.natAbs ≤ 2 ^ e) : Bs x e := by
  refine ⟨h.1, ?_⟩
  rw [h.2, k_abs, Nat.pow_add, Nat.mul_comm]
  exact Nat.mul_le_mul_left _ hk
theorem wide_s {x : Nat} {k : Int} (h : S32 x k) (hk : k.natAbs ≤ 2 ^ 24) : floatToFloatBits .f32 x .f64 = some (wd x) ∧ S64 (wd x) k := by
  obtain ⟨r, hr, hrr⟩ := widen_rnd h.1
  have e1 : wd x = r := by unfold wd; rw [hr]; rfl
  obtain ⟨c, c1, c2⟩ := w64 k (Nat.le_trans hk (by decide))
  have e2 := rnd_exact hrr c1 (by rw [c2, h.2, Int.pow_zero, Int.mul_one, Int.mul_assoc, p1074])
  rw [e1]
  exact ⟨hr, hrr.fin, by rw [e2, c2]⟩
theorem nb (e : Nat) : mv single (ps e) * 2 ^ 925 = 2 ^ (D64 + e) := by rw [mv_ps, pow_149]
theorem narrow_s {x : Nat} {k : Int} (h : S64 x k) (hk : k.natAbs < 2 ^ 24) : floatToFloatBits .f64 x .f32 = some (nw x) ∧ S32 (nw x) k := by
  have hb : (V double x).natAbs ≤ mv single (ps 24) * 2 ^ 925 := by
    have e : (V double x).natAbs ≤ 2 ^ (D64 + 24) := by
      rw [h.2, k_abs, Nat.pow_add, Nat.mul_comm]
      exact Nat.mul_le_mul_left _ (Nat.le_of_lt hk)
    exact Nat.le_trans e (Nat.le_of_eq (nb 24).symm)
  obtain ⟨r, hr, hrr⟩ := narrow_rnd h.1 (ps_inf (e := 24) (by omega)) hb
  have e1 : nw x = r := by unfold nw; rw [hr]; rfl
  obtain ⟨c, c1, c2⟩ := w32 k hk
  have e2 := rnd_exact hrr c1 (by rw [c2, h.2, Int.mul_assoc, p1074])
  rw [e1]
  exact ⟨hr, hrr.fin, by rw [e2, c2]⟩
theorem mv52 : mv double (pw (52 + D64)) = 2 ^ 52 * 2 ^ D64 := by rw [mv_pw (by omega), Nat.pow_add]
theorem pw52 : pw (52 + D64) < double.infRung := pw_inf (by rw [D64_is]; omega)
theorem mm4 (a b c d : Int) : a * c * (b * d) = a * b * c * d := by grind
theorem mul_s {x y : Nat} {a b : Int} (hx : S64 x a) (hy : S64 y b) (h : (a * b).natAbs ≤ 2 ^ 52) : floatBits .mul .f64 x y = some (bv .mul x y) ∧ S64 (bv .mul x y) (a * b) := by
  have hv : V double x * V double y = a * b * 2 ^ D64 * 2 ^ D64 := by
    rw [hx.2, hy.2]; exact mm4 _ _ _ _
  obtain ⟨r, hr, hrr, _⟩ := mul_rnd double lpD hx.1 hy.1 pw52 (by
    rw [hv, k_abs, k_abs, mv52]
    exact Nat.mul_le_mul_right _ (Nat.mul_le_mul_right _ h))
  have h' : floatBits .mul .f64 x y = some r := hr
  obtain ⟨e1, e2⟩ := bv_some h'
  obtain ⟨c, c1, c2⟩ := w64 _ h
  have e3 := rnd_exact hrr c1 (by rw [c2, hv])
  rw [e2]
  exact ⟨by rw [← e2]; exact e1, hrr.fin, by rw [e3, c2]⟩
theorem add_s {x y : Nat} {a b : Int} (hx : S64 x a) (hy : S64 y b) (h : (a + b).natAbs ≤ 2 ^ 52) : floatBits .add .f64 x y = some (bv .add x y) ∧ S64 (bv .add x y) (a + b) := by
  have hv : V double x + V double y = (a + b) * 2 ^ D64 := by rw [hx.2, hy.2, Int.add_mul]
  obtain ⟨r, hr, hrr⟩ := add_rnd double hx.1 hy.1 pw52 (by
    rw [hv, k_abs, mv52]
    exact Nat.mul_le_mul_right _ h)
  have h' : floatBits .add .f64 x y = some r := hr
  obtain ⟨e1, e2⟩ := bv_some h'
  obtain ⟨c, c1, c2⟩ := w64 _ h
  have e3 := rnd_exact hrr c1 (by rw [c2, hv, Int.pow_zero, Int.mul_one])
  rw [e2]
  exact ⟨by rw [← e2]; exact e1, hrr.fin, by rw [e3, c2]⟩
theorem sub_s {x y : Nat} {a b : Int} (hx : S64 x a) (hy : S64 y b) (h : (a - b).natAbs ≤ 2 ^ 52) : floatBits .sub .f64 x y = some (bv .sub x y) ∧ S64 (bv .sub x y) (a - b) := by
  have hv : V double x - V double y = (a - b) * 2 ^ D64 := by rw [hx.2, hy.2, Int.sub_mul]
  obtain ⟨r, hr, hrr⟩ := sub_rnd double hx.1 hy.1 pw52 (by
    rw [hv, k_abs, mv52]
    exact Nat.mul_le_mul_right _ h)
  have h' : floatBits .sub .f64 x y = some r := hr
  obtain ⟨e1, e2⟩ := bv_some h'
  obtain ⟨c, c1, c2⟩ := w64 _ h
  have e3 := rnd_exact hrr c1 (by rw [c2, hv, Int.pow_zero, Int.mul_one])
  rw [e2]
  exact ⟨by rw [← e2]; exact e1, hrr.fin, by rw [e3, c2]⟩
def ba32 (x y : Nat) : Nat := (floatBits .add .f32 x y).getD 0
theorem mv24 : mv single (ps 24) = 2 ^ 24 * 2 ^ 149 := by rw [mv_ps, Nat.pow_add, Nat.mul_comm]
theorem add_s32 {x y : Nat} {a b : Int} (hx : S32 x a) (hy : S32 y b) (h : (a + b).natAbs < 2 ^ 24) : floatBits .add .f32 x y = some (ba32 x y) ∧ S32 (ba32 x y) (a + b) := by
  have hv : V single x + V single y = (a + b) * 2 ^ 149 := by rw [hx.2, hy.2, Int.add_mul]
  obtain ⟨r, hr, hrr⟩ := add_rnd single hx.1 hy.1 (ps_inf (e := 24) (by omega)) (by
    rw [hv, k_abs, mv24]
    exact Nat.mul_le_mul_right _ (Nat.le_of_lt h))
  have h' : floatBits .add .f32 x y = some r := hr
  have e2 : ba32 x y = r := by unfold ba32; rw [h']; rfl
  obtain ⟨c, c1, c2⟩ := w32 _ h
  have e3 := rnd_exact hrr c1 (by rw [c2, hv, Int.pow_zero, Int.mul_one])
  rw [e2]
  exact ⟨h', hrr.fin, by rw [e3, c2]⟩
theorem sub_s32 {x y : Nat} {a b : Int} (hx : S32 x a) (hy : S32 y b) (h : (a - b).natAbs < 2 ^ 24) : floatBits .sub .f32 x y = some (bs32 x y) ∧ S32 (bs32 x y) (a - b) := by
  have hv : V single x - V single y = (a - b) * 2 ^ 149 := by rw [hx.2, hy.2, Int.sub_mul]
  obtain ⟨r, hr, hrr⟩ := sub_rnd single hx.1 hy.1 (ps_inf (e := 24) (by omega)) (by
    rw [hv, k_abs, mv24]
    exact Nat.mul_le_mul_right _ (Nat.le_of_lt h))
  have h' : floatBits .sub .f32 x y = some r := hr
  have e2 : bs32 x y = r := by unfold bs32; rw [h']; rfl
  obtain ⟨c, c1, c2⟩ := w32 _ h
  have e3 := rnd_exact hrr c1 (by rw [c2, hv, Int.pow_zero, Int.mul_one])
  rw [e2]
  exact ⟨h', hrr.fin, by rw [e3, c2]⟩
theorem order_s {x y : Nat} {a b : Int} (hx : S32 x a) (hy : S32 y b) : (FloatKind.f32.format.order x y == some .eq) = decide (a = b) := by
  have h := order_fin single hx.1 hy.1
  rw [hx.2, hy.2, compare_scale] at h
  have h' : FloatKind.f32.format.order x y = some (compare a b) := h
  rw [h']
  by_cases e : a = b
  · subst e
    simp
  · have : compare a b ≠ .eq := fun h => e (Int.compare_eq_eq.1 h)
    simp [e, this]

/-- Both parts. -/
def Gi (x : Nat × Nat) (g : G) : Prop := S32 x.1 g.1 ∧ S32 x.2 g.2
theorem Gi.zero : Gi (0, 0) gz := ⟨S32.zero, S32.zero⟩
theorem Gi.one : Gi (1065353216, 0) (1, 0) := ⟨S32.one, S32.zero⟩
theorem Gi.uniq {x : Nat × Nat} {a b : G} (h : Gi x a) (h' : Gi x b) : a = b := Prod.ext (h.1.uniq h'.1) (h.2.uniq h'.2)
theorem Gi.cb {x : Nat × Nat} {g : G} {e : Nat} (h : Gi x g) (hg : gN g ≤ 2 ^ e) : Cb x e := by
  unfold gN at hg
  exact ⟨h.1.bs (by omega), h.2.bs (by omega)⟩
theorem abs_mul_le {a b : Int} {m n : Nat} (h1 : a.natAbs ≤ m) (h2 : b.natAbs ≤ n) : (a * b).natAbs ≤ m * n := by
  rw [Int.natAbs_mul]; exact Nat.mul_le_mul h1 h2
theorem mul_g {x y : Nat × Nat} {a b : G} (hx : Gi x a) (hy : Gi y b) (h1 : gN a < 2 ^ 24) (h2 : gN b < 2 ^ 24) (h : gN a * gN b < 2 ^ 24) : MulOk x y ∧ Gi (mulw x y) (gm a b) := by
  have hb := gN_gm a b
  have t1 : (a.1 * b.1).natAbs ≤ gN a * gN b := abs_mul_le (by unfold gN; omega) (by unfold gN; omega)
  have t2 : (a.2 * b.2).natAbs ≤ gN a * gN b := abs_mul_le (by unfold gN; omega) (by unfold gN; omega)
  have t3 : (a.1 * b.2).natAbs ≤ gN a * gN b := abs_mul_le (by unfold gN; omega) (by unfold gN; omega)
  have t4 : (a.2 * b.1).natAbs ≤ gN a * gN b := abs_mul_le (by unfold gN; omega) (by unfold gN; omega)
  have hbig : (2 : Nat) ^ 24 ≤ 2 ^ 52 := by decide
  have g1 : (a.1 * b.1 - a.2 * b.2).natAbs < 2 ^ 24 := by unfold gN gm at hb; dsimp only at hb; unfold gN at h; omega
  have g2 : (a.1 * b.2 + a.2 * b.1).natAbs < 2 ^ 24 := by unfold gN gm at hb; dsimp only at hb; unfold gN at h; omega
  unfold gN at h1 h2
  obtain ⟨u1, v1⟩ := wide_s hx.1 (by omega)
  obtain ⟨u2, v2⟩ := wide_s hx.2 (by omega)
  obtain ⟨u3, v3⟩ := wide_s hy.1 (by omega)
  obtain ⟨u4, v4⟩ := wide_s hy.2 (by omega)
  obtain ⟨m1, p1⟩ := mul_s v1 v3 (by omega)
  obtain ⟨m2, p2⟩ := mul_s v2 v4 (by omega)
  obtain ⟨m3, p3⟩ := mul_s v1 v4 (by omega)
  obtain ⟨m4, p4⟩ := mul_s v2 v3 (by omega)
  obtain ⟨r1, r2⟩ := sub_s p1 p2 (by omega)
  obtain ⟨i1, i2⟩ := add_s p3 p4 (by omega)
  obtain ⟨n1, n2⟩ := narrow_s r2 g1
  obtain ⟨n3, n4⟩ := narrow_s i2 g2
  exact ⟨⟨u1, u2, u3, u4, m1, m2, m3, m4, r1, i1, n1, n3⟩, n2, n4⟩
def addw (x y : Nat × Nat) : Nat × Nat := (ba32 x.1 y.1, ba32 x.2 y.2)
theorem add_g {x y : Nat × Nat} {a b : G} (hx : Gi x a) (hy : Gi y b) (h : gN (ga a b) < 2 ^ 24) : floatBits .add .f32 x.1 y.1 = some (addw x y).1 ∧ floatBits .add .f32 x.2 y.2 = some (addw x y).2 ∧ Gi (addw x y) (ga a b) := by
  unfold gN ga at h
  dsimp only at h
  obtain ⟨a1, a2⟩ := add_s32 hx.1 hy.1 (by omega)
  obtain ⟨b1, b2⟩ := add_s32 hx.2 hy.2 (by omega)
  exact ⟨a1, b1, a2, b2⟩
theorem sub_g {x y : Nat × Nat} {a b : G} (hx : Gi x a) (hy : Gi y b) (h : gN (gs a b) < 2 ^ 24) : floatBits .sub .f32 x.1 y.1 = some (subw x y).1 ∧ floatBits .sub .f32 x.2 y.2 = some (subw x y).2 ∧ Gi (subw x y) (gs a b) := by
  unfold gN gs at h
  dsimp only at h
  obtain ⟨a1, a2⟩ := sub_s32 hx.1 hy.1 (by omega)
  obtain ⟨b1, b2⟩ := sub_s32 hx.2 hy.2 (by omega)
  exact ⟨a1, b1, a2, b2⟩

/-- The words of a list have these values. -/
def Pg (l : List (Nat × Nat)) (f : Nat → G) : Prop := ∀ k, Gi (l.getD k (0, 0)) (f k)
theorem getD_out (l : List (Nat × Nat)) (k : Nat) (h : l.length ≤ k) : l.getD k (0, 0) = (0, 0) := by simp [List.getD, h]
theorem Pg.out {l : List (Nat × Nat)} {f : Nat → G} (h : Pg l f) (k : Nat) (hk : l.length ≤ k) : f k = gz := by
  have := h k
  rw [getD_out l k hk] at this
  exact this.uniq Gi.zero
theorem Pg.nx {l : List (Nat × Nat)} {f : Nat → G} {w : Nat × Nat} {z : G} {B C : Nat} (h : Pg l f) (hw : Gi w z) (hB : ∀ k, gN (f k) ≤ B) (hC : gN z ≤ C) (hb : B + B * C < 2 ^ 24) (hc : C < 2 ^ 24) : Pg (nx l w) (gnx f z) := by
  intro k
  by_cases hk : k ≤ l.length
  · rw [nx_at l w k hk]
    unfold nxk
    have hp : gN (f k) * gN z ≤ B * C := Nat.mul_le_mul (hB k) hC
    obtain ⟨_, m2⟩ := mul_g (h k) hw (Nat.lt_of_le_of_lt (hB k) (by omega)) (by omega) (by omega)
    have hbd := gnx_N hB hC k
    have hprev : Gi (if k = 0 then ((0 : Nat), (0 : Nat)) else l.getD (k - 1) (0, 0)) (if k = 0 then gz else f (k - 1)) := by
      split
      · exact Gi.zero
      · exact h _
    exact (sub_g hprev m2 (Nat.lt_of_le_of_lt hbd hb)).2.2
  · rw [getD_out _ _ (by rw [nx_len]; omega)]
    have e : gnx f z k = gz := by
      unfold gnx
      rw [if_neg (by omega), h.out (k - 1) (by omega), h.out k (by omega), gm_zero]
      rfl
    rw [e]
    exact Gi.zero
/-- A number with integers as parts, as words. -/
def gw (z : G) : Nat × Nat := (floatOfInt .f32 z.1, floatOfInt .f32 z.2)
def Small2 (z : G) : Prop := -2 ≤ z.1 ∧ z.1 ≤ 2 ∧ -2 ≤ z.2 ∧ z.2 ≤ 2
theorem i32_ok (k : Int) (h1 : -2 ≤ k) (h2 : k ≤ 2) : S32 (floatOfInt .f32 k) k := by
  have h : k = -2 ∨ k = -1 ∨ k = 0 ∨ k = 1 ∨ k = 2 := by omega
  unfold S32 FinW
  rcases h with rfl | rfl | rfl | rfl | rfl <;> exact ⟨by decide +kernel, by decide +kernel⟩
theorem gw_ok {z : G} (h : Small2 z) : Gi (gw z) z := ⟨i32_ok _ h.1 h.2.1, i32_ok _ h.2.2.1 h.2.2.2⟩
theorem sm_N {z : G} (h : Small2 z) : gN z ≤ 4 := by unfold Small2 at h; unfold gN; omega
theorem pol_g : ∀ (zs : List G) (l : List (Nat × Nat)) (f : Nat → G) (B : Nat), (∀ z ∈ zs, Small2 z) → Pg l f → (∀ k, gN (f k) ≤ B) → B * 5 ^ zs.length < 2 ^ 24 → Pg ((zs.map gw).foldl polyNum.nx l) (zs.foldl gnx f)
  | [], l, f, B, _, hl, _, _ => hl
  | z :: zs, l, f, B, hz, hl, hB, hb => by
    rw [List.map_cons, List.foldl_cons, List.foldl_cons]
    rw [List.length_cons, Nat.pow_succ, Nat.mul_comm (5 ^ _), ← Nat.mul_assoc] at hb
    have hs := hz z List.mem_cons_self
    have hb5 : B * 5 ≤ B * 5 * 5 ^ zs.length := Nat.le_mul_of_pos_right _ (Nat.pow_pos (by omega))
    refine pol_g zs _ _ (B * 5) (fun y hy => hz y (List.mem_cons_of_mem _ hy)) (hl.nx (gw_ok hs) hB (sm_N hs) (by omega) (by decide)) (fun k => ?_) hb
    have := gnx_N hB (sm_N hs) k
    omega
theorem pg_one : Pg [(1065353216, 0)] g1 := fun k => by
  cases k with
  | zero => exact Gi.one
  | succ k => exact Gi.zero
/-- The polynomial of zeros has the numbers that it has exactly. -/
theorem pol_pg (zs : List G) (hz : ∀ z ∈ zs, Small2 z) (hn : zs.length ≤ 5) : Pg (pol (zs.map gw)) (gpol zs) := by
  have hp : 5 ^ zs.length ≤ 5 ^ 5 := Nat.pow_le_pow_right (by omega) hn
  exact pol_g zs _ g1 1 hz pg_one (fun k => by unfold g1; split <;> decide) (by omega)
theorem gpol_5 (zs : List G) (hz : ∀ z ∈ zs, Small2 z) (k : Nat) : gN (gpol zs k) ≤ 5 ^ zs.length := gpol_N (C := 4) (fun z h => sm_N (hz z h)) k

end Go.Proofs.Ytkjmlpdbnnmlhab.gNum
