/- Products of complex numbers and polynomials of zeros on the unit circle, as words: bounds. -/
import Derived.Test.YtkjmlpdbnnmlhabSlc
import Derived.Test.YtkjmlpdbnnmlhabFloats
import Derived.Test.YtkjmlpdbnnmlhabRound
import Derived.Test.YtkjmlpdbnnmlhabValues
import Derived.Test.YtkjmlpdbnnmlhabConv
import Derived.Test.YtkjmlpdbnnmlhabFWalk
import Derived.Test.YtkjmlpdbnnmlhabFinWalk
import Derived.Test.YtkjmlpdbnnmlhabFloat2
import Derived.Test.YtkjmlpdbnnmlhabFloat3
import Derived.Test.YtkjmlpdbnnmlhabPhase
import Derived.Test.YtkjmlpdbnnmlhabSine
import Derived.Test.YtkjmlpdbnnmlhabPhasor
import Derived.Test.YtkjmlpdbnnmlhabListC
import Derived.Test.YtkjmlpdbnnmlhabSteerNum
import Derived.Test.YtkjmlpdbnnmlhabSineIn
namespace Go.Proofs.Ytkjmlpdbnnmlhab.polyNum
set_option linter.unusedVariables false
open Go Ieee
open Go.Proofs.Ytkjmlpdbnnmlhab.floats Go.Proofs.Ytkjmlpdbnnmlhab.round Go.Proofs.Ytkjmlpdbnnmlhab.values Go.Proofs.Ytkjmlpdbnnmlhab.conv Go.Proofs.Ytkjmlpdbnnmlhab.float2 Go.Proofs.Ytkjmlpdbnnmlhab.float3 Go.Proofs.Ytkjmlpdbnnmlhab.phase Go.Proofs.Ytkjmlpdbnnmlhab.phasor Go.Proofs.Ytkjmlpdbnnmlhab.listC Go.Proofs.Ytkjmlpdbnnmlhab.steerNum Go.Proofs.Ytkjmlpdbnnmlhab.sineIn

def Cb (x : Nat × Nat) (e : Nat) : Prop := Bs x.1 e ∧ Bs x.2 e
theorem Cb.mono {x : Nat × Nat} {a b : Nat} (h : Cb x a) (hab : a ≤ b) : Cb x b := ⟨h.1.mono hab, h.2.mono hab⟩
theorem wd_in {a e : Nat} (h : Bs a e) (he : e ≤ 1000) : floatToFloatBits .f32 a .f64 = some (wd a) ∧ Bd (wd a) (D64 + e) := by
  obtain ⟨r, hr, hb⟩ := h.wide he
  have e1 : wd a = r := by unfold wd; rw [hr]; rfl
  rw [e1]; exact ⟨hr, hb⟩
theorem nw_is {x e : Nat} (h : Bd x (D64 + e)) (he : e ≤ 127) : floatToFloatBits .f64 x .f32 = some (nw x) ∧ Bs (nw x) e := by
  obtain ⟨r, hr, hb⟩ := nw_in h he
  have e1 : nw x = r := by unfold nw; rw [hr]; rfl
  rw [e1]; exact ⟨hr, hb⟩
theorem bv_mul {x y a b : Nat} (hx : Bd x (D64 + a)) (hy : Bd y (D64 + b)) (h : a + b ≤ 1000) : floatBits .mul .f64 x y = some (bv .mul x y) ∧ Bd (bv .mul x y) (D64 + (a + b)) := by
  have hd := D64_is
  obtain ⟨r, hr, hb, _⟩ := bd_mul (c := D64 + (a + b)) hx hy (by omega) (by omega) (by omega)
  obtain ⟨e1, e2⟩ := bv_some hr
  exact ⟨e1, by rw [e2]; exact hb⟩
theorem bv_sub {x y a : Nat} (hx : Bd x (D64 + a)) (hy : Bd y (D64 + a)) (h : a ≤ 1000) : floatBits .sub .f64 x y = some (bv .sub x y) ∧ Bd (bv .sub x y) (D64 + (a + 1)) := by
  have hd := D64_is
  obtain ⟨r, hr, hb, _⟩ := bd_sub hx hy (by omega) (by omega)
  obtain ⟨e1, e2⟩ := bv_some hr
  exact ⟨e1, by rw [e2]; exact hb⟩
theorem bv_add {x y a : Nat} (hx : Bd x (D64 + a)) (hy : Bd y (D64 + a)) (h : a ≤ 1000) : floatBits .add .f64 x y = some (bv .add x y) ∧ Bd (bv .add x y) (D64 + (a + 1)) := by
  have hd := D64_is
  have hb : (V double x + V double y).natAbs ≤ 2 ^ (D64 + a + 1) := by
    have := hx.2
    have := hy.2
    rw [pow_succ']
    omega
  obtain ⟨r, hr, hrr⟩ := add_rnd double hx.1 hy.1 (pw_inf (e := D64 + a + 1) (by omega)) (by rw [mv_pw (by omega)]; exact hb)
  have h' : floatBits .add .f64 x y = some r := hr
  obtain ⟨e1, e2⟩ := bv_some h'
  exact ⟨e1, by rw [e2]; exact rnd_bd hrr (by omega) (by omega) (by rw [Nat.pow_zero, Nat.mul_one]; exact hb)⟩

/-- A product, as words. -/
def reW (x y : Nat × Nat) : Nat := bv .sub (bv .mul (wd x.1) (wd y.1)) (bv .mul (wd x.2) (wd y.2))
def imW (x y : Nat × Nat) : Nat := bv .add (bv .mul (wd x.1) (wd y.2)) (bv .mul (wd x.2) (wd y.1))
def mulw (x y : Nat × Nat) : Nat × Nat := (nw (reW x y), nw (imW x y))
structure MulOk (x y : Nat × Nat) : Prop where
  a1 : floatToFloatBits .f32 x.1 .f64 = some (wd x.1)
  a2 : floatToFloatBits .f32 x.2 .f64 = some (wd x.2)
  b1 : floatToFloatBits .f32 y.1 .f64 = some (wd y.1)
  b2 : floatToFloatBits .f32 y.2 .f64 = some (wd y.2)
  p1 : floatBits .mul .f64 (wd x.1) (wd y.1) = some (bv .mul (wd x.1) (wd y.1))
  p2 : floatBits .mul .f64 (wd x.2) (wd y.2) = some (bv .mul (wd x.2) (wd y.2))
  p3 : floatBits .mul .f64 (wd x.1) (wd y.2) = some (bv .mul (wd x.1) (wd y.2))
  p4 : floatBits .mul .f64 (wd x.2) (wd y.1) = some (bv .mul (wd x.2) (wd y.1))
  r : floatBits .sub .f64 (bv .mul (wd x.1) (wd y.1)) (bv .mul (wd x.2) (wd y.2)) = some (reW x y)
  i : floatBits .add .f64 (bv .mul (wd x.1) (wd y.2)) (bv .mul (wd x.2) (wd y.1)) = some (imW x y)
  n1 : floatToFloatBits .f64 (reW x y) .f32 = some (nw (reW x y))
  n2 : floatToFloatBits .f64 (imW x y) .f32 = some (nw (imW x y))
theorem mul_ok {x y : Nat × Nat} {a b : Nat} (hx : Cb x a) (hy : Cb y b) (h : a + b + 1 ≤ 127) : MulOk x y ∧ Cb (mulw x y) (a + b + 1) := by
  obtain ⟨u1, u2⟩ := wd_in hx.1 (by omega)
  obtain ⟨u3, u4⟩ := wd_in hx.2 (by omega)
  obtain ⟨v1, v2⟩ := wd_in hy.1 (by omega)
  obtain ⟨v3, v4⟩ := wd_in hy.2 (by omega)
  obtain ⟨m1, m2⟩ := bv_mul u2 v2 (by omega)
  obtain ⟨m3, m4⟩ := bv_mul u4 v4 (by omega)
  obtain ⟨m5, m6⟩ := bv_mul u2 v4 (by omega)
  obtain ⟨m7, m8⟩ := bv_mul u4 v2 (by omega)
  obtain ⟨r1, r2⟩ := bv_sub m2 m4 (by omega)
  obtain ⟨i1, i2⟩ := bv_add m6 m8 (by omega)
  obtain ⟨n1, n2⟩ := nw_is r2 (by omega)
  obtain ⟨n3, n4⟩ := nw_is i2 (by omega)
  exact ⟨⟨u1, u3, v1, v3, m1, m3, m5, m7, r1, i1, n1, n3⟩, ⟨n2, n4⟩⟩

theorem product_comm (a b : Datum) : a.product b = b.product a := by
  cases a <;> cases b <;> simp [Datum.product, Bool.xor_comm, Nat.mul_comm, Int.add_comm]
theorem sum_comm (a b : Datum) : a.sum b = b.sum a := by
  cases a <;> cases b <;> simp only [Datum.sum]
  · rename_i s m p t n q
    rw [Int.min_comm q p, Int.add_comm (signed t n (q - min p q).toNat), Bool.and_comm t s]
  · rename_i s t
    cases s <;> cases t <;> rfl
theorem mul_comm64 (x y : Nat) : bv .mul x y = bv .mul y x := by
  have h : floatBits .mul .f64 x y = floatBits .mul .f64 y x := by
    show double.mul x y = double.mul y x
    unfold Format.mul
    rw [product_comm]
  unfold bv; rw [h]
theorem add_comm64 (x y : Nat) : bv .add x y = bv .add y x := by
  have h : floatBits .add .f64 x y = floatBits .add .f64 y x := by
    show double.add x y = double.add y x
    unfold Format.add
    rw [sum_comm]
  unfold bv; rw [h]
theorem mulw_comm (x y : Nat × Nat) : mulw x y = mulw y x := by
  unfold mulw reW imW
  rw [mul_comm64 (wd y.1) (wd x.1), mul_comm64 (wd y.2) (wd x.2), mul_comm64 (wd y.1) (wd x.2), mul_comm64 (wd y.2) (wd x.1), add_comm64 (bv .mul (wd x.2) (wd y.1))]

def bs32 (x y : Nat) : Nat := (floatBits .sub .f32 x y).getD 0
def subw (x y : Nat × Nat) : Nat × Nat := (bs32 x.1 y.1, bs32 x.2 y.2)
theorem sub_ok {x y : Nat × Nat} {a : Nat} (hx : Cb x a) (hy : Cb y a) (h : a ≤ 126) : floatBits .sub .f32 x.1 y.1 = some (bs32 x.1 y.1) ∧ floatBits .sub .f32 x.2 y.2 = some (bs32 x.2 y.2) ∧ Cb (subw x y) (a + 1) := by
  obtain ⟨r, hr, hb⟩ := sub_in hx.1 hy.1 h
  obtain ⟨s, hs, hc⟩ := sub_in hx.2 hy.2 h
  have e1 : bs32 x.1 y.1 = r := by unfold bs32; rw [hr]; rfl
  have e2 : bs32 x.2 y.2 = s := by unfold bs32; rw [hs]; rfl
  unfold subw
  rw [e1, e2]
  exact ⟨hr, hs, hb, hc⟩

/-- A polynomial, multiplied by that with one zero more. -/
def nxk (l : List (Nat × Nat)) (z : Nat × Nat) (k : Nat) : Nat × Nat := subw (if k = 0 then (0, 0) else l.getD (k - 1) (0, 0)) (mulw (l.getD k (0, 0)) z)
def nx (l : List (Nat × Nat)) (z : Nat × Nat) : List (Nat × Nat) := (List.range (l.length + 1)).map (nxk l z)
theorem nx_len (l : List (Nat × Nat)) (z : Nat × Nat) : (nx l z).length = l.length + 1 := by simp [nx]
theorem nx_at (l : List (Nat × Nat)) (z : Nat × Nat) (k : Nat) (h : k ≤ l.length) : (nx l z).getD k (0, 0) = nxk l z k := by
  simp [nx, List.getD, show k < l.length + 1 by omega]
def AllB (l : List (Nat × Nat)) (e : Nat) : Prop := ∀ k, Cb (l.getD k (0, 0)) e
theorem nxk_ok {l : List (Nat × Nat)} {z : Nat × Nat} {e : Nat} (hl : AllB l e) (hz : Cb z 5) (he : e + 7 ≤ 127) (k : Nat) :
    MulOk (l.getD k (0, 0)) z ∧ floatBits .sub .f32 (if k = 0 then ((0 : Nat), (0 : Nat)) else l.getD (k - 1) (0, 0)).1 (mulw (l.getD k (0, 0)) z).1 = some (nxk l z k).1 ∧
      floatBits .sub .f32 (if k = 0 then ((0 : Nat), (0 : Nat)) else l.getD (k - 1) (0, 0)).2 (mulw (l.getD k (0, 0)) z).2 = some (nxk l z k).2 ∧ Cb (nxk l z k) (e + 7) := by
  obtain ⟨m1, m2⟩ := mul_ok (hl k) hz (by omega)
  have hb : Cb (if k = 0 then ((0 : Nat), (0 : Nat)) else l.getD (k - 1) (0, 0)) (e + 5 + 1) := by
    split
    · exact ⟨zero_in _, zero_in _⟩
    · exact (hl _).mono (by omega)
  obtain ⟨s1, s2, s3⟩ := sub_ok hb m2 (by omega)
  exact ⟨m1, s1, s2, s3⟩
theorem nx_ok {l : List (Nat × Nat)} {z : Nat × Nat} {e : Nat} (hl : AllB l e) (hz : Cb z 5) (he : e + 7 ≤ 127) : AllB (nx l z) (e + 7) := by
  intro k
  by_cases hk : k ≤ l.length
  · rw [nx_at l z k hk]
    exact (nxk_ok hl hz he k).2.2.2
  · rw [show (nx l z).getD k (0, 0) = (0, 0) by simp [List.getD, nx, show ¬ k < l.length + 1 by omega]]
    exact ⟨zero_in _, zero_in _⟩
/-- The polynomial with some zeros. -/
def pol (zs : List (Nat × Nat)) : List (Nat × Nat) := zs.foldl nx [(1065353216, 0)]
theorem pol_nil : pol [] = [(1065353216, 0)] := rfl
theorem pol_snoc (zs : List (Nat × Nat)) (z : Nat × Nat) : pol (zs ++ [z]) = nx (pol zs) z := by simp [pol]
theorem pol_len1 (zs : List (Nat × Nat)) : (pol zs).length = zs.length + 1 := by
  have h : ∀ (zs l : List (Nat × Nat)), (zs.foldl nx l).length = l.length + zs.length := by
    intro zs
    induction zs with
    | nil => intro l; simp
    | cons z zs ih => intro l; rw [List.foldl_cons, ih, nx_len]; simp; omega
  unfold pol; rw [h]; simp; omega
theorem pol_in (zs : List (Nat × Nat)) (hz : ∀ k, k < zs.length → Cb (zs.getD k (0, 0)) 5) (h : zs.length ≤ 15) : ∀ k, k ≤ zs.length → AllB (pol (zs.take k)) (7 * k)
  | 0, _ => by
    intro k
    show Cb ([((1065353216 : Nat), (0 : Nat))].getD k (0, 0)) 0
    cases k with
    | zero => exact ⟨one_in, zero_in 0⟩
    | succ k => exact ⟨zero_in 0, zero_in 0⟩
  | k + 1, hk => by
    have ih := pol_in zs hz h k (by omega)
    have e : zs.take (k + 1) = zs.take k ++ [zs.getD k (0, 0)] := by
      rw [List.take_succ_eq_append_getElem (by omega)]
      simp [List.getD, show k < zs.length by omega]
    rw [e, pol_snoc]
    have h7 : 7 * k + 7 ≤ 127 := by omega
    exact nx_ok (e := 7 * k) ih (hz k (by omega)) h7

end Go.Proofs.Ytkjmlpdbnnmlhab.polyNum
