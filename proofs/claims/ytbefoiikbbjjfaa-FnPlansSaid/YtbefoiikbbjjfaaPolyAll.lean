/- Products of complex numbers and polynomials of zeros on the unit circle, as words: bounds. -/
/- Products of complex numbers, by the program and by the model. -/
/- Polynomials of zeros, by the model. -/
import Derived.Test.YtbefoiikbbjjfaaSlc
import Derived.Test.YtbefoiikbbjjfaaFloatAll
import Derived.Test.YtbefoiikbbjjfaaFWalk
import Derived.Test.YtbefoiikbbjjfaaFinWalk
import Derived.Test.YtbefoiikbbjjfaaFlAll
import Derived.Test.YtbefoiikbbjjfaaPhasor
import Derived.Test.YtbefoiikbbjjfaaListC
import Derived.Test.YtbefoiikbbjjfaaSteerNum
import Derived.Test.YtbefoiikbbjjfaaSineIn
import Derived.Test.YtbefoiikbbjjfaaRows
import Derived.Test.YtbefoiikbbjjfaaSmall
import Derived.WalkKit
import Derived.ProofKit
import Derived.OpenShut
import Derived.ShutString
import Derived.ChangeOld
import Derived.Below
import Derived.Lib.Hide
import Derived.BigQuiet
import Derived.Deep.QuietTactic
import Derived.WalkLawsBesides
import Derived.Outline
import Derived.Deep.LoopGhost
import Derived.Deep.RegionHeld3
import Derived.StillTailTactics
import Derived.Laws.ComplexArith
namespace Go.Proofs.Ytbefoiikbbjjfaa.polyNum
set_option linter.unusedVariables false
open Go Ieee
open Go.Proofs.Ytbefoiikbbjjfaa.floats Go.Proofs.Ytbefoiikbbjjfaa.round Go.Proofs.Ytbefoiikbbjjfaa.values Go.Proofs.Ytbefoiikbbjjfaa.conv Go.Proofs.Ytbefoiikbbjjfaa.float2 Go.Proofs.Ytbefoiikbbjjfaa.float3 Go.Proofs.Ytbefoiikbbjjfaa.phase Go.Proofs.Ytbefoiikbbjjfaa.phasor Go.Proofs.Ytbefoiikbbjjfaa.listC Go.Proofs.Ytbefoiikbbjjfaa.steerNum Go.Proofs.Ytbefoiikbbjjfaa.sineIn

def Cb (x : Nat × Nat) (e : Nat) : Prop := Bs x.1 e ∧ Bs x.2 e
theorem Cb.mono {x : Nat × Nat} {a b : Nat} (h : Cb x a) (hab : a ≤ b) : Cb x b := ⟨h.1.mono hab, h.2.mono hab⟩
theorem wd_in {a e : Nat} (h : Bs a e) (he : e ≤ 1000) : floatToFloatBits .f32 a .f64 = some (wd a) ∧ Bd (wd a) (D64 + e) := by
  obtain ⟨r, hr, hb⟩ := h.wide he
  have e1 : wd a = r := by unfold wd; rw [hr]; rfl
  rw [e1]; exact ⟨hr, hb⟩
theorem nw_is {x e : Nat} (h : Bd x (D64 + e)) (he : e ≤ 127) : floatToFloatBits .f64 x .f32 = some (nw x) ∧ Bs (nw x) e := by
  obtain ⟨r, hr, hb⟩ := nw_in h he
  have e1 : nw x = r := by unfold nw; rw [hr]; rfl
  rw [e1]; exact ⟨hr, hb⟩
theorem bv_mul {x y a b : Nat} (hx : Bd x (D64 + a)) (hy : Bd y (D64 + b)) (h : a + b ≤ 1000) : floatBits .mul .f64 x y = some (bv .mul x y) ∧ Bd (bv .mul x y) (D64 + (a + b)) := by
  have hd := D64_is
  obtain ⟨r, hr, hb, _⟩ := bd_mul (c := D64 + (a + b)) hx hy (by omega) (by omega) (by omega)
  obtain ⟨e1, e2⟩ := bv_some hr
  exact ⟨e1, by rw [e2]; exact hb⟩
theorem bv_sub {x y a : Nat} (hx : Bd x (D64 + a)) (hy : Bd y (D64 + a)) (h : a ≤ 1000) : floatBits .sub .f64 x y = some (bv .sub x y) ∧ Bd (bv .sub x y) (D64 + (a + 1)) := by
  have hd := D64_is
  obtain ⟨r, hr, hb, _⟩ := bd_sub hx hy (by omega) (by omega)
  obtain ⟨e1, e2⟩ := bv_some hr
  exact ⟨e1, by rw [e2]; exact hb⟩
theorem bv_add {x y a : Nat} (hx : Bd x (D64 + a)) (hy : Bd y (D64 + a)) (h : a ≤ 1000) : floatBits .add .f64 x y = some (bv .add x y) ∧ Bd (bv .add x y) (D64 + (a + 1)) := by
  have hd := D64_is
  have hb : (V double x + V double y).natAbs ≤ 2 ^ (D64 + a + 1) := by
    have := hx.2
    have := hy.2
    rw [pow_succ']
    omega
  obtain ⟨r, hr, hrr⟩ := add_rnd double hx.1 hy.1 (pw_inf (e := D64 + a + 1) (by omega)) (by rw [mv_pw (by omega)]; exact hb)
  have h' : floatBits .add .f64 x y = some r := hr
  obtain ⟨e1, e2⟩ := bv_some h'
  exact ⟨e1, by rw [e2]; exact rnd_bd hrr (by omega) (by omega) (by rw [Nat.pow_zero, Nat.mul_one]; exact hb)⟩

/-- A product, as words. -/
def reW (x y : Nat × Nat) : Nat := bv .sub (bv .mul (wd x.1) (wd y.1)) (bv .mul (wd x.2) (wd y.2))
def imW (x y : Nat × Nat) : Nat := bv .add (bv .mul (wd x.1) (wd y.2)) (bv .mul (wd x.2) (wd y.1))
def mulw (x y : Nat × Nat) : Nat × Nat := (nw (reW x y), nw (imW x y))
structure MulOk (x y : Nat × Nat) : Prop where
  a1 : floatToFloatBits .f32 x.1 .f64 = some (wd x.1)
  a2 : floatToFloatBits .f32 x.2 .f64 = some (wd x.2)
  b1 : floatToFloatBits .f32 y.1 .f64 = some (wd y.1)
  b2 : floatToFloatBits .f32 y.2 .f64 = some (wd y.2)
  p1 : floatBits .mul .f64 (wd x.1) (wd y.1) = some (bv .mul (wd x.1) (wd y.1))
  p2 : floatBits .mul .f64 (wd x.2) (wd y.2) = some (bv .mul (wd x.2) (wd y.2))
  p3 : floatBits .mul .f64 (wd x.1) (wd y.2) = some (bv .mul (wd x.1) (wd y.2))
  p4 : floatBits .mul .f64 (wd x.2) (wd y.1) = some (bv .mul (wd x.2) (wd y.1))
  r : floatBits .sub .f64 (bv .mul (wd x.1) (wd y.1)) (bv .mul (wd x.2) (wd y.2)) = some (reW x y)
  i : floatBits .add .f64 (bv .mul (wd x.1) (wd y.2)) (bv .mul (wd x.2) (wd y.1)) = some (imW x y)
  n1 : floatToFloatBits .f64 (reW x y) .f32 = some (nw (reW x y))
  n2 : floatToFloatBits .f64 (imW x y) .f32 = some (nw (imW x y))
theorem mul_ok {x y : Nat × Nat} {a b : Nat} (hx : Cb x a) (hy : Cb y b) (h : a + b + 1 ≤ 127) : MulOk x y ∧ Cb (mulw x y) (a + b + 1) := by
  obtain ⟨u1, u2⟩ := wd_in hx.1 (by omega)
  obtain ⟨u3, u4⟩ := wd_in hx.2 (by omega)
  obtain ⟨v1, v2⟩ := wd_in hy.1 (by omega)
  obtain ⟨v3, v4⟩ := wd_in hy.2 (by omega)
  obtain ⟨m1, m2⟩ := bv_mul u2 v2 (by omega)
  obtain ⟨m3, m4⟩ := bv_mul u4 v4 (by omega)
  obtain ⟨m5, m6⟩ := bv_mul u2 v4 (by omega)
  obtain ⟨m7, m8⟩ := bv_mul u4 v2 (by omega)
  obtain ⟨r1, r2⟩ := bv_sub m2 m4 (by omega)
  obtain ⟨i1, i2⟩ := bv_add m6 m8 (by omega)
  obtain ⟨n1, n2⟩ := nw_is r2 (by omega)
  obtain ⟨n3, n4⟩ := nw_is i2 (by omega)
  exact ⟨⟨u1, u3, v1, v3, m1, m3, m5, m7, r1, i1, n1, n3⟩, ⟨n2, n4⟩⟩

theorem product_comm (a b : Datum) : a.product b = b.product a := by
  cases a <;> cases b <;> simp [Datum.product, Bool.xor_comm, Nat.mul_comm, Int.add_comm]
theorem sum_comm (a b : Datum) : a.sum b = b.sum a := by
  cases a <;> cases b <;> simp only [Datum.sum]
  · rename_i s m p t n q
    rw [Int.min_comm q p, Int.add_comm (signed t n (q - min p q).toNat), Bool.and_comm t s]
  · rename_i s t
    cases s <;> cases t <;> rfl
theorem mul_comm64 (x y : Nat) : bv .mul x y = bv .mul y x := by
  have h : floatBits .mul .f64 x y = floatBits .mul .f64 y x := by
    show double.mul x y = double.mul y x
    unfold Format.mul
    rw [product_comm]
  unfold bv; rw [h]
theorem add_comm64 (x y : Nat) : bv .add x y = bv .add y x := by
  have h : floatBits .add .f64 x y = floatBits .add .f64 y x := by
    show double.add x y = double.add y x
    unfold Format.add
    rw [sum_comm]
  unfold bv; rw [h]
theorem mulw_comm (x y : Nat × Nat) : mulw x y = mulw y x := by
  unfold mulw reW imW
  rw [mul_comm64 (wd y.1) (wd x.1), mul_comm64 (wd y.2) (wd x.2), mul_comm64 (wd y.1) (wd x.2), mul_comm64 (wd y.2) (wd x.1), add_comm64 (bv .mul (wd x.2) (wd y.1))]

def bs32 (x y : Nat) : Nat := (floatBits .sub .f32 x y).getD 0
def subw (x y : Nat × Nat) : Nat × Nat := (bs32 x.1 y.1, bs32 x.2 y.2)
theorem sub_ok {x y : Nat × Nat} {a : Nat} (hx : Cb x a) (hy : Cb y a) (h : a ≤ 126) : floatBits .sub .f32 x.1 y.1 = some (bs32 x.1 y.1) ∧ floatBits .sub .f32 x.2 y.2 = some (bs32 x.2 y.2) ∧ Cb (subw x y) (a + 1) := by
  obtain ⟨r, hr, hb⟩ := sub_in hx.1 hy.1 h
  obtain ⟨s, hs, hc⟩ := sub_in hx.2 hy.2 h
  have e1 : bs32 x.1 y.1 = r := by unfold bs32; rw [hr]; rfl
  have e2 : bs32 x.2 y.2 = s := by unfold bs32; rw [hs]; rfl
  unfold subw
  rw [e1, e2]
  exact ⟨hr, hs, hb, hc⟩

/-- A polynomial, multiplied by that with one zero more. -/
def nxk (l : List (Nat × Nat)) (z : Nat × Nat) (k : Nat) : Nat × Nat := subw (if k = 0 then (0, 0) else l.getD (k - 1) (0, 0)) (mulw (l.getD k (0, 0)) z)
def nx (l : List (Nat × Nat)) (z : Nat × Nat) : List (Nat × Nat) := (List.range (l.length + 1)).map (nxk l z)
theorem nx_len (l : List (Nat × Nat)) (z : Nat × Nat) : (nx l z).length = l.length + 1 := by simp [nx]
theorem nx_at (l : List (Nat × Nat)) (z : Nat × Nat) (k : Nat) (h : k ≤ l.length) : (nx l z).getD k (0, 0) = nxk l z k := by
  simp [nx, List.getD, show k < l.length + 1 by omega]
def AllB (l : List (Nat × Nat)) (e : Nat) : Prop := ∀ k, Cb (l.getD k (0, 0)) e
theorem nxk_ok {l : List (Nat × Nat)} {z : Nat × Nat} {e : Nat} (hl : AllB l e) (hz : Cb z 5) (he : e + 7 ≤ 127) (k : Nat) :
    MulOk (l.getD k (0, 0)) z ∧ floatBits .sub .f32 (if k = 0 then ((0 : Nat), (0 : Nat)) else l.getD (k - 1) (0, 0)).1 (mulw (l.getD k (0, 0)) z).1 = some (nxk l z k).1 ∧
      floatBits .sub .f32 (if k = 0 then ((0 : Nat), (0 : Nat)) else l.getD (k - 1) (0, 0)).2 (mulw (l.getD k (0, 0)) z).2 = some (nxk l z k).2 ∧ Cb (nxk l z k) (e + 7) := by
  obtain ⟨m1, m2⟩ := mul_ok (hl k) hz (by omega)
  have hb : Cb (if k = 0 then ((0 : Nat), (0 : Nat)) else l.getD (k - 1) (0, 0)) (e + 5 + 1) := by
    split
    · exact ⟨zero_in _, zero_in _⟩
    · exact (hl _).mono (by omega)
  obtain ⟨s1, s2, s3⟩ := sub_ok hb m2 (by omega)
  exact ⟨m1, s1, s2, s3⟩
theorem nx_ok {l : List (Nat × Nat)} {z : Nat × Nat} {e : Nat} (hl : AllB l e) (hz : Cb z 5) (he : e + 7 ≤ 127) : AllB (nx l z) (e + 7) := by
  intro k
  by_cases hk : k ≤ l.length
  · rw [nx_at l z k hk]
    exact (nxk_ok hl hz he k).2.2.2
  · rw [show (nx l z).getD k (0, 0) = (0, 0) by simp [List.getD, nx, show ¬ k < l.length + 1 by omega]]
    exact ⟨zero_in _, zero_in _⟩
/-- The polynomial with some zeros. -/
def pol (zs : List (Nat × Nat)) : List (Nat × Nat) := zs.foldl nx [(1065353216, 0)]
theorem pol_nil : pol [] = [(1065353216, 0)] := rfl
theorem pol_snoc (zs : List (Nat × Nat)) (z : Nat × Nat) : pol (zs ++ [z]) = nx (pol zs) z := by simp [pol]
theorem pol_len1 (zs : List (Nat × Nat)) : (pol zs).length = zs.length + 1 := by
  have h : ∀ (zs l : List (Nat × Nat)), (zs.foldl nx l).length = l.length + zs.length := by
    intro zs
    induction zs with
    | nil => intro l; simp
    | cons z zs ih => intro l; rw [List.foldl_cons, ih, nx_len]; simp; omega
  unfold pol; rw [h]; simp; omega
theorem pol_in (zs : List (Nat × Nat)) (hz : ∀ k, k < zs.length → Cb (zs.getD k (0, 0)) 5) (h : zs.length ≤ 15) : ∀ k, k ≤ zs.length → AllB (pol (zs.take k)) (7 * k)
  | 0, _ => by
    intro k
    show Cb ([((1065353216 : Nat), (0 : Nat))].getD k (0, 0)) 0
    cases k with
    | zero => exact ⟨one_in, zero_in 0⟩
    | succ k => exact ⟨zero_in 0, zero_in 0⟩
  | k + 1, hk => by
    have ih := pol_in zs hz h k (by omega)
    have e : zs.take (k + 1) = zs.take k ++ [zs.getD k (0, 0)] := by
      rw [List.take_succ_eq_append_getElem (by omega)]
      simp [List.getD, show k < zs.length by omega]
    rw [e, pol_snoc]
    have h7 : 7 * k + 7 ≤ 127 := by omega
    exact nx_ok (e := 7 * k) ih (hz k (by omega)) h7

end Go.Proofs.Ytbefoiikbbjjfaa.polyNum

namespace Go.Proofs.Ytbefoiikbbjjfaa.polyW
open Go.ChangeShapes Go.WideShapes Go.ChangeAt Go.RowKit
open Go.ChangeMaps (open_string shut_string)
set_option linter.unusedVariables false
open Go Ieee Go.RowKit
open Go.Proofs.Ytbefoiikbbjjfaa.slc Go.Proofs.Ytbefoiikbbjjfaa.small Go.Proofs.Ytbefoiikbbjjfaa.floats Go.Proofs.Ytbefoiikbbjjfaa.round Go.Proofs.Ytbefoiikbbjjfaa.values Go.Proofs.Ytbefoiikbbjjfaa.conv Go.Proofs.Ytbefoiikbbjjfaa.fWalk Go.Proofs.Ytbefoiikbbjjfaa.phase Go.Proofs.Ytbefoiikbbjjfaa.sine Go.Proofs.Ytbefoiikbbjjfaa.phasor Go.Proofs.Ytbefoiikbbjjfaa.listC Go.Proofs.Ytbefoiikbbjjfaa.sineIn Go.Proofs.Ytbefoiikbbjjfaa.polyNum

theorem cvw {a b : Nat} (h : floatToFloatBits .f32 a .f64 = some b) (w : World) : (convert 80 62 (.float .f32 a)).run Try.prog w = .ok (.float .f64 b) w := by
  rw [run_convff (P := Try.prog) w 80 62 .f32 .f64 a (by rw [Try.underlying80]; rfl) Try.underlying62]
  have e1 : cval .f32 w a .f64 = b := by unfold cval; rw [h]
  have e2 : ccnt .f32 a .f64 = 0 := by unfold ccnt; rw [h]; rfl
  rw [e1, e2]; rfl
theorem cvn {a b : Nat} (h : floatToFloatBits .f64 a .f32 = some b) (w : World) : (convert 62 80 (.float .f64 a)).run Try.prog w = .ok (.float .f32 b) w := by
  rw [run_convff (P := Try.prog) w 62 80 .f64 .f32 a (by rw [Try.underlying62]; rfl) Try.underlying80]
  have e1 : cval .f64 w a .f32 = b := by unfold cval; rw [h]
  have e2 : ccnt .f64 a .f32 = 0 := by unfold ccnt; rw [h]; rfl
  rw [e1, e2]; rfl

theorem widen_c {a b c d : Nat} (ha : floatToFloatBits .f32 a .f64 = some c) (hb : floatToFloatBits .f32 b .f64 = some d) (w : World) :
    Calls Try.prog 122 #[.complex .f32 a b] w fun e w' => e = .returned (.complex .f64 c d) ∧ w = w' := by
  have h1 := cvw ha
  have h2 := cvw hb
  clear ha hb
  go_enter Try.func122, Try.ntmps122
  go_wp2
  go_ret
  exact ⟨rfl, rfl⟩
theorem times_c {a b c d p q r s u v : Nat} (h1 : floatBits .mul .f64 a c = some p) (h2 : floatBits .mul .f64 b d = some q) (h3 : floatBits .mul .f64 a d = some r) (h4 : floatBits .mul .f64 b c = some s) (h5 : floatBits .sub .f64 p q = some u) (h6 : floatBits .add .f64 r s = some v) (w : World) :
    Calls Try.prog 191 #[.complex .f64 a b, .complex .f64 c d] w fun e w' => e = .returned (.complex .f64 u v) ∧ w = w' := by
  have r1 := run_ok (P := Try.prog) h1 rfl
  have r2 := run_ok (P := Try.prog) h2 rfl
  have r3 := run_ok (P := Try.prog) h3 rfl
  have r4 := run_ok (P := Try.prog) h4 rfl
  have r5 := run_ok (P := Try.prog) h5 rfl
  have r6 := run_ok (P := Try.prog) h6 rfl
  clear h1 h2 h3 h4 h5 h6
  go_enter Try.func191, Try.ntmps191
  go_wp2
  go_ret
  exact ⟨rfl, rfl⟩
theorem nar_c {a b c d : Nat} (ha : floatToFloatBits .f64 a .f32 = some c) (hb : floatToFloatBits .f64 b .f32 = some d) (w : World) :
    Calls Try.prog 178 #[.complex .f64 a b] w fun e w' => e = .returned (.complex .f32 c d) ∧ w = w' := by
  have h1 := cvn ha
  have h2 := cvn hb
  clear ha hb
  go_enter Try.func178, Try.ntmps178
  go_wp2
  go_ret
  exact ⟨rfl, rfl⟩
theorem mul_impl {x y : Nat × Nat} (h : MulOk x y) (w : World) :
    Calls Try.prog 135 #[.complex .f32 x.1 x.2, .complex .f32 y.1 y.2] w fun e w' => e = .returned (.complex .f32 (mulw x y).1 (mulw x y).2) ∧ w = w' := by
  go_enter Try.func135, Try.ntmps135
  go_wp2_with fail
  refine (widen_c h.a1 h.a2 _).mono ?_
  rintro e w' ⟨rfl, rfl⟩
  go_wp2_with fail
  refine (widen_c h.b1 h.b2 _).mono ?_
  rintro e w' ⟨rfl, rfl⟩
  go_wp2_with fail
  refine (times_c h.p1 h.p2 h.p3 h.p4 h.r h.i _).mono ?_
  rintro e w' ⟨rfl, rfl⟩
  go_wp2_with fail
  refine (nar_c h.n1 h.n2 _).mono ?_
  rintro e w' ⟨rfl, rfl⟩
  go_wp2_with fail
  go_ret
  exact ⟨rfl, rfl⟩

theorem wide_c {a b c d : Nat} (ha : floatToFloatBits .f32 a .f64 = some c) (hb : floatToFloatBits .f32 b .f64 = some d) (w : World) :
    Calls Try.prog 194 #[.complex .f32 a b] w fun e w' => e = .returned (.complex .f64 c d) ∧ w = w' := by
  have h1 := cvw ha
  have h2 := cvw hb
  clear ha hb
  go_enter Try.func194, Try.ntmps194
  go_wp2
  go_ret
  exact ⟨rfl, rfl⟩
theorem wmul_c {a b c d p q r s u v : Nat} (h1 : floatBits .mul .f64 a c = some p) (h2 : floatBits .mul .f64 b d = some q) (h3 : floatBits .mul .f64 a d = some r) (h4 : floatBits .mul .f64 b c = some s) (h5 : floatBits .sub .f64 p q = some u) (h6 : floatBits .add .f64 r s = some v) (w : World) :
    Calls Try.prog 193 #[.complex .f64 a b, .complex .f64 c d] w fun e w' => e = .returned (.complex .f64 u v) ∧ w = w' := by
  have r1 := run_ok (P := Try.prog) h1 rfl
  have r2 := run_ok (P := Try.prog) h2 rfl
  have r3 := run_ok (P := Try.prog) h3 rfl
  have r4 := run_ok (P := Try.prog) h4 rfl
  have r5 := run_ok (P := Try.prog) h5 rfl
  have r6 := run_ok (P := Try.prog) h6 rfl
  clear h1 h2 h3 h4 h5 h6
  go_enter Try.func193, Try.ntmps193
  go_wp2
  go_ret
  exact ⟨rfl, rfl⟩
theorem nar1 {a c : Nat} (ha : floatToFloatBits .f64 a .f32 = some c) (w : World) :
    Calls Try.prog 188 #[.float .f64 a] w fun e w' => e = .returned (.float .f32 c) ∧ w = w' := by
  have h1 := cvn ha
  clear ha
  go_enter Try.func188, Try.ntmps188
  go_wp2
  go_ret
  exact ⟨rfl, rfl⟩
theorem cnar_c {a b c d : Nat} (ha : floatToFloatBits .f64 a .f32 = some c) (hb : floatToFloatBits .f64 b .f32 = some d) (w : World) :
    Calls Try.prog 192 #[.complex .f64 a b] w fun e w' => e = .returned (.complex .f32 c d) ∧ w = w' := by
  go_enter Try.func192, Try.ntmps192
  go_wp2_with fail
  refine (nar1 ha _).mono ?_
  rintro e w' ⟨rfl, rfl⟩
  go_wp2_with fail
  refine (nar1 hb _).mono ?_
  rintro e w' ⟨rfl, rfl⟩
  go_wp2_with fail
  go_ret
  exact ⟨rfl, rfl⟩
theorem mul_spec {x y : Nat × Nat} (h : MulOk x y) (w : World) :
    Calls Try.prog 139 #[.complex .f32 x.1 x.2, .complex .f32 y.1 y.2] w fun e w' => e = .returned (.complex .f32 (mulw x y).1 (mulw x y).2) ∧ w = w' := by
  go_enter Try.func139, Try.ntmps139
  go_wp2_with fail
  refine (wide_c h.a1 h.a2 _).mono ?_
  rintro e w' ⟨rfl, rfl⟩
  go_wp2_with fail
  refine (wide_c h.b1 h.b2 _).mono ?_
  rintro e w' ⟨rfl, rfl⟩
  go_wp2_with fail
  refine (wmul_c h.p1 h.p2 h.p3 h.p4 h.r h.i _).mono ?_
  rintro e w' ⟨rfl, rfl⟩
  go_wp2_with fail
  refine (cnar_c h.n1 h.n2 _).mono ?_
  rintro e w' ⟨rfl, rfl⟩
  go_wp2_with fail
  go_ret
  exact ⟨rfl, rfl⟩

end Go.Proofs.Ytbefoiikbbjjfaa.polyW

namespace Go.Proofs.Ytbefoiikbbjjfaa.poly1
open Go.ChangeShapes Go.WideShapes Go.ChangeAt Go.RowKit
open Go.ChangeMaps (open_string shut_string)
set_option linter.unusedVariables false
open Go Ieee Go.RowKit
open Go.Proofs.Ytbefoiikbbjjfaa.slc Go.Proofs.Ytbefoiikbbjjfaa.small Go.Proofs.Ytbefoiikbbjjfaa.floats Go.Proofs.Ytbefoiikbbjjfaa.round Go.Proofs.Ytbefoiikbbjjfaa.values Go.Proofs.Ytbefoiikbbjjfaa.conv Go.Proofs.Ytbefoiikbbjjfaa.fWalk Go.Proofs.Ytbefoiikbbjjfaa.phase Go.Proofs.Ytbefoiikbbjjfaa.sine Go.Proofs.Ytbefoiikbbjjfaa.phasor Go.Proofs.Ytbefoiikbbjjfaa.listC Go.Proofs.Ytbefoiikbbjjfaa.sineIn Go.Proofs.Ytbefoiikbbjjfaa.polyNum Go.Proofs.Ytbefoiikbbjjfaa.polyW

theorem csub {a b c d p q : Nat} (h1 : floatBits .sub .f32 a c = some p) (h2 : floatBits .sub .f32 b d = some q) (w : World) (t : TypeId) : (binOp .sub t (.complex .f32 a b) (.complex .f32 c d)).run Try.prog w = .ok (.complex .f32 p q) w :=
  run_complex_sum w .sub (.inr rfl) t .f32 a b c d p q (by simp [cSumBits, h1, h2])
theorem cpx_one (x y : Nat) : ∀ u ∈ [Value.complex .f32 x y], u.oneCell' = true := by
  intro u hu
  have : u = .complex .f32 x y := by simpa using hu
  subst this
  rfl
theorem app_zero (l : List (Nat × Nat)) (n : Nat) (h : l.length = n) : lst (ccell l) n ++ [.complex .f32 0 0] = lst (ccell l) (n + 1) := by
  have e : ccell l n = .complex .f32 0 0 := by unfold ccell; simp [List.getD, h]
  rw [← e]
  simp [lst, List.range_succ]
/-- The numbers from j on are those of the next polynomial. -/
def dn (l : List (Nat × Nat)) (z : Nat × Nat) (j t : Nat) : Value := if j ≤ t then ccell (nx l z) t else ccell l t
theorem dn_all (l : List (Nat × Nat)) (z : Nat × Nat) (n : Nat) : lst (dn l z n) n = lst (ccell l) n := lst_congr fun t ht => by unfold dn; rw [if_neg (by omega)]
theorem dn_none (l : List (Nat × Nat)) (z : Nat × Nat) (n : Nat) : lst (dn l z 0) n = lst (ccell (nx l z)) n := lst_congr fun t ht => by unfold dn; rw [if_pos (Nat.zero_le _)]
theorem dn_set (l : List (Nat × Nat)) (z : Nat × Nat) (n i : Nat) (h : i < n) : (lst (dn l z (i + 1)) n).set i (ccell (nx l z) i) = lst (dn l z i) n := by
  apply List.ext_getElem?
  intro t
  rw [List.getElem?_set]
  by_cases ht : i = t
  · subst ht
    simp [lst, dn, h]
  · rw [if_neg ht]
    by_cases hn : t < n
    · rw [lst_get _ _ _ hn, lst_get _ _ _ hn]
      unfold dn
      by_cases h1 : i + 1 ≤ t
      · rw [if_pos h1, if_pos (by omega)]
      · rw [if_neg h1, if_neg (by omega)]
    · simp [lst, hn]

attribute [local go_sem] run_store_complex
set_option maxHeartbeats 4000000 in
set_option maxRecDepth 100000 in
theorem poly_spec : True := trivial

end Go.Proofs.Ytbefoiikbbjjfaa.poly1
