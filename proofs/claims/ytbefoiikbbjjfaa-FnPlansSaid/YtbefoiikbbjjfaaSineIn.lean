/- The sine of at most a quarter of a turn is small; bounds by powers of 2 through 32-bit operations. -/
import Derived.Test.YtbefoiikbbjjfaaFloatAll
import Derived.Test.YtbefoiikbbjjfaaFlAll
namespace Go.Proofs.Ytbefoiikbbjjfaa.sineIn
set_option linter.unusedVariables false
open Go Ieee
open Go.Proofs.Ytbefoiikbbjjfaa.floats Go.Proofs.Ytbefoiikbbjjfaa.round Go.Proofs.Ytbefoiikbbjjfaa.values Go.Proofs.Ytbefoiikbbjjfaa.conv Go.Proofs.Ytbefoiikbbjjfaa.float2 Go.Proofs.Ytbefoiikbbjjfaa.float3 Go.Proofs.Ytbefoiikbbjjfaa.phase

/-- A QUOTIENT by something that is at least a power of 2. -/
theorem bd_quoe {x y a e : Nat} (hx : Bd x (a + e)) (hy : FinW double y) (hy1 : 2 ^ (D64 + e) ≤ (V double y).natAbs) (h1 : 52 ≤ a + 1) (h2 : a + 1 ≤ 2097) :
    ∃ r, floatBits .quo .f64 x y = some r ∧ Bd r (a + 1) := by
  obtain ⟨m, i, ex, vx⟩ := read_fin double hx.1
  obtain ⟨n, j, ey, vy⟩ := read_fin double hy
  have hxa := hx.2
  rw [V_read vx, sg_abs] at hxa
  rw [V_read vy, sg_abs] at hy1
  have hn : n ≠ 0 := by
    rintro rfl
    have := Nat.two_pow_pos (D64 + e)
    omega
  let more := 54 + n.log2 - m.log2
  have hq : double.div x y = some (double.nearest (sgn double x ^^ sgn double y) (2 * ((m <<< more) / n) + ((m <<< more) % n != 0).toNat) (double.leastPlace + i - (double.leastPlace + j) - more - 1)) := by
    unfold Format.div
    rw [ex, ey]
    unfold Datum.quotient
    dsimp only
    rw [if_neg hn]
    rfl
  have hmag : (2 * ((m <<< more) / n) + ((m <<< more) % n != 0).toNat) * 2 ^ (i + D64) ≤ 2 ^ (a + 1) * 2 ^ (j + more + 1) := by
    by_cases hm : m = 0
    · subst hm
      simp
    · rw [Nat.shiftLeft_eq]
      have hmlog : 2 ^ m.log2 ≤ m := Nat.log2_self_le hm
      have hnlog : n < 2 ^ (n.log2 + 1) := Nat.lt_log2_self
      have hge : n ≤ m * 2 ^ more := by
        refine Nat.le_trans (Nat.le_of_lt hnlog) ?_
        refine Nat.le_trans ?_ (Nat.mul_le_mul_right _ hmlog)
        rw [← Nat.pow_add]
        exact Nat.pow_le_pow_right (by omega) (by show _ ≤ m.log2 + (54 + n.log2 - m.log2); omega)
      have hq1 : 1 ≤ m * 2 ^ more / n := (Nat.one_le_div_iff (Nat.pos_of_ne_zero hn)).2 hge
      have hqn : m * 2 ^ more / n * n ≤ m * 2 ^ more := Nat.div_mul_le_self _ _
      have hbit : (m * 2 ^ more % n != 0).toNat ≤ 1 := by cases (m * 2 ^ more % n != 0) <;> simp
      generalize m * 2 ^ more / n = q at *
      generalize (m * 2 ^ more % n != 0).toNat = b at *
      have h3 : 2 * q + b ≤ 4 * q := by omega
      refine Nat.le_of_mul_le_mul_right ?_ (Nat.pos_of_ne_zero hn)
      refine Nat.le_trans (Nat.mul_le_mul_right _ (Nat.mul_le_mul_right _ h3)) ?_
      have e1 : 4 * q * 2 ^ (i + D64) * n = 4 * 2 ^ (i + D64) * (q * n) := by
        generalize 2 ^ (i + D64) = P
        ac_rfl
      rw [e1]
      refine Nat.le_trans (Nat.mul_le_mul_left _ hqn) ?_
      have e2 : 4 * 2 ^ (i + D64) * (m * 2 ^ more) = m * 2 ^ i * (2 ^ D64 * (4 * 2 ^ more)) := by
        rw [Nat.pow_add]
        generalize 2 ^ i = I
        generalize 2 ^ D64 = P
        generalize 2 ^ more = M
        ac_rfl
      have e3 : 2 ^ (a + 1) * 2 ^ (j + more + 1) * n = 2 ^ a * (n * 2 ^ j * (4 * 2 ^ more)) := by
        rw [Nat.pow_add, Nat.pow_add, Nat.pow_add, show (4 : Nat) = 2 ^ 1 * 2 ^ 1 from rfl]
        generalize 2 ^ j = J
        generalize 2 ^ a = Q
        generalize 2 ^ more = M
        ac_rfl
      have key : m * 2 ^ i * 2 ^ D64 ≤ 2 ^ a * (n * 2 ^ j) := by
        rw [Nat.pow_add] at hxa hy1
        refine Nat.le_trans (Nat.mul_le_mul_right _ hxa) ?_
        rw [Nat.mul_assoc, Nat.mul_comm (2 ^ e)]
        exact Nat.mul_le_mul_left _ hy1
      rw [e2, e3, ← Nat.mul_assoc (m * 2 ^ i), ← Nat.mul_assoc (2 ^ a)]
      exact Nat.mul_le_mul_right _ key
  have hh := nearest_rnd double (sgn double x ^^ sgn double y) (2 * ((m <<< more) / n) + ((m <<< more) % n != 0).toNat) (double.leastPlace + i - (double.leastPlace + j) - more - 1) (p := i + D64) (d := j + more + 1) (by rw [lpD]; omega) (pw_inf h2) (by rw [mv_pw h1]; exact hmag)
  exact ⟨_, hq, rnd_bd hh.1 h1 h2 (by rw [sg_abs]; exact hmag)⟩

theorem sc_fin : ∀ k : Nat, k < 9 → 1 ≤ k → FinW double (sc (k : Int)) := fun k h1 h2 => (sc_ok k (by omega) (by omega)).1
theorem sc8 : 2 ^ (D64 + 8) ≤ (V double (sc 8)).natAbs := by decide +kernel
theorem sc7 : 2 ^ (D64 + 7) ≤ (V double (sc 7)).natAbs := by decide +kernel
theorem sc6 : 2 ^ (D64 + 7) ≤ (V double (sc 6)).natAbs := by decide +kernel
theorem sc5 : 2 ^ (D64 + 6) ≤ (V double (sc 5)).natAbs := by decide +kernel
theorem sc4 : 2 ^ (D64 + 6) ≤ (V double (sc 4)).natAbs := by decide +kernel
theorem sc3 : 2 ^ (D64 + 5) ≤ (V double (sc 3)).natAbs := by decide +kernel
theorem sc2 : 2 ^ (D64 + 4) ≤ (V double (sc 2)).natAbs := by decide +kernel
theorem sc1 : 2 ^ (D64 + 2) ≤ (V double (sc 1)).natAbs := by decide +kernel
/-- A step of the series, with bounds. -/
theorem sp_in {u i b e a : Nat} (hu : Bd u (D64 + 2)) (hi : i < 8) (hp : Bd (sp u i) (D64 + b)) (hb : b ≤ 4 * i) (hs : 2 ^ (D64 + e) ≤ (V double (sc (8 - i))).natAbs) (ha : b + 2 + 1 ≤ a + e) (ha2 : a ≤ 4 * i + 3) : Bd (sp u (i + 1)) (D64 + a + 1) := by
  have hd := D64_is
  obtain ⟨a1, a2, a3, _⟩ := sp_step hu hi (hp.mono (by omega))
  obtain ⟨r, hr, hb1, _⟩ := bd_mul (c := D64 + (b + 2)) hu hp (by omega) (by omega) (by omega)
  have e1 : bv .mul u (sp u i) = r := by rw [a1] at hr; injection hr
  rw [← e1] at hb1
  have hx : Bd (bv .mul u (sp u i)) ((D64 + a - 1) + e) := hb1.mono (by omega)
  obtain ⟨r2, hr2, hb2⟩ := bd_quoe hx (sc_ok (8 - i) (by omega) (by omega)).1 hs (by omega) (by omega)
  have e2 : bv .quo (bv .mul u (sp u i)) (sc (8 - i)) = r2 := by rw [a2] at hr2; injection hr2
  rw [← e2] at hb2
  obtain ⟨r3, hr3, hb3, _⟩ := bd_sub (one_bd.mono (b := D64 + a) (by omega)) (hb2.mono (b := D64 + a) (by omega)) (by omega) (by omega)
  have e3 : sp u (i + 1) = r3 := by rw [a3] at hr3; injection hr3
  rw [e3]
  exact hb3
theorem sp8 {u : Nat} (hu : Bd u (D64 + 2)) : Bd (sp u 8) (D64 + 3) := by
  have h1 := sp_in (i := 0) (b := 0) (e := 8) (a := 0) hu (by omega) one_bd (by omega) sc8 (by omega) (by omega)
  have h2 := sp_in (i := 1) (b := 1) (e := 7) (a := 0) hu (by omega) h1 (by omega) sc7 (by omega) (by omega)
  have h3 := sp_in (i := 2) (b := 1) (e := 7) (a := 0) hu (by omega) h2 (by omega) sc6 (by omega) (by omega)
  have h4 := sp_in (i := 3) (b := 1) (e := 6) (a := 0) hu (by omega) h3 (by omega) sc5 (by omega) (by omega)
  have h5 := sp_in (i := 4) (b := 1) (e := 6) (a := 0) hu (by omega) h4 (by omega) sc4 (by omega) (by omega)
  have h6 := sp_in (i := 5) (b := 1) (e := 5) (a := 0) hu (by omega) h5 (by omega) sc3 (by omega) (by omega)
  have h7 := sp_in (i := 6) (b := 1) (e := 4) (a := 0) hu (by omega) h6 (by omega) sc2 (by omega) (by omega)
  exact sp_in (i := 7) (b := 1) (e := 2) (a := 2) hu (by omega) h7 (by omega) sc1 (by omega) (by omega)
theorem sn_in {y : Nat} (h : Bd y (D64 - 2)) : Bd (sn y) (D64 + 4) := by
  have hd := D64_is
  obtain ⟨r, hr, hb, _⟩ := bd_mul (c := D64 + 4) (sz_ok h).2 (sp8 (su_ok h).2) (by omega) (by omega) (by omega)
  have e : sn y = r := by have := (sn_ok h).1; rw [this] at hr; injection hr
  rw [e]; exact hb
theorem neg_in {x e : Nat} (h : Bd x (D64 + e)) (he : e ≤ 1000) : Bd (bv .sub 0 x) (D64 + e + 1) := by
  have hd := D64_is
  obtain ⟨r, hr, hb, _⟩ := bd_sub (a := D64 + e) ⟨F_zero, by rw [V_zero]; simp⟩ h (by omega) (by omega)
  unfold bv; rw [hr]; exact hb

/-! ## 32-bit numbers -/
theorem bi32p : single.binade = 2 ^ 23 := by decide +kernel
theorem inf32p : single.infRung = 255 * 2 ^ 23 := by decide +kernel
/-- x is finite, at most 2 ^ e. -/
def Bs (x e : Nat) : Prop := FinW single x ∧ (V single x).natAbs ≤ 2 ^ (149 + e)
theorem Bs.mono {x a b : Nat} (h : Bs x a) (hab : a ≤ b) : Bs x b := ⟨h.1, Nat.le_trans h.2 (Nat.pow_le_pow_right (by omega) (by omega))⟩
def ps (e : Nat) : Nat := (e + 127) * 2 ^ 23
theorem mv_ps (e : Nat) : mv single (ps e) = 2 ^ (149 + e) := by
  unfold mv ps
  rw [bi32p]
  have hp : 0 < 2 ^ 23 := Nat.two_pow_pos _
  have h1 : ¬ (e + 127) * 2 ^ 23 < 2 ^ 23 := by
    have := Nat.le_mul_of_pos_left (2 ^ 23) (show 0 < e + 127 by omega)
    omega
  rw [if_neg h1, Nat.mul_mod_left, Nat.mul_div_cancel _ hp, Nat.add_zero, ← Nat.pow_add]
  congr 1
  omega
theorem ps_inf {e : Nat} (h : e ≤ 127) : ps e < single.infRung := by
  unfold ps
  rw [inf32p]
  exact Nat.mul_lt_mul_of_pos_right (by omega) (Nat.two_pow_pos _)
theorem V_ps (neg : Bool) {e : Nat} (h : e ≤ 127) : V single (single.word neg (ps e)) = sg neg (2 ^ (149 + e)) ∧ FinW single (single.word neg (ps e)) := by
  have h3 := ps_inf h
  have h4 := inf_lt_sw single
  refine ⟨by rw [V_word single neg (by omega), mv_ps], ?_⟩
  unfold FinW
  rw [rg_word single neg (by omega)]
  exact h3
theorem rnd_bs {num : Int} {d r e : Nat} (h : Rnd single num d r) (h1 : e ≤ 127) (hb : num.natAbs ≤ 2 ^ (149 + e) * 2 ^ d) : Bs r e := by
  obtain ⟨v1, f1⟩ := V_ps false h1
  obtain ⟨v2, f2⟩ := V_ps true h1
  have a := h.le _ f1
  have b := h.ge _ f2
  rw [v1] at a
  rw [v2] at b
  have hcs : (2 : Int) ^ d = ((2 ^ d : Nat) : Int) := by simp
  rw [hcs] at a b
  rw [sg_mul] at a b
  refine ⟨h.fin, ?_⟩
  generalize 2 ^ (149 + e) * 2 ^ d = B at *
  generalize 2 ^ (149 + e) = E at *
  simp only [sg, Bool.false_eq_true, if_false, if_true] at a b
  have a' := a (by omega)
  have b' := b (by omega)
  omega
theorem pow_sum (a b c : Nat) (h : a + b = c) : 2 ^ a * 2 ^ b = 2 ^ c := by rw [← Nat.pow_add, h]
theorem pow_149 (e : Nat) : 2 ^ (149 + e) * 2 ^ 925 = 2 ^ (D64 + e) := pow_sum _ 925 _ (by rw [D64_is]; omega)
/-- Narrowed. -/
theorem nw_in {x e : Nat} (h : Bd x (D64 + e)) (he : e ≤ 127) : ∃ r, floatToFloatBits .f64 x .f32 = some r ∧ Bs r e := by
  have hb : (V double x).natAbs ≤ mv single (ps e) * 2 ^ 925 := by rw [mv_ps, pow_149]; exact h.2
  obtain ⟨r, hr, hrr⟩ := narrow_rnd h.1 (ps_inf he) hb
  exact ⟨r, hr, rnd_bs hrr he (by rw [pow_149]; exact h.2)⟩
theorem sub_in {x y e : Nat} (hx : Bs x e) (hy : Bs y e) (he : e ≤ 126) : ∃ r, floatBits .sub .f32 x y = some r ∧ Bs r (e + 1) := by
  have hb : (V single x - V single y).natAbs ≤ 2 ^ (149 + (e + 1)) := by
    have := hx.2
    have := hy.2
    rw [show 149 + (e + 1) = (149 + e) + 1 by omega, pow_succ']
    omega
  obtain ⟨r, hr, hrr⟩ := sub_rnd single hx.1 hy.1 (ps_inf (e := e + 1) (by omega)) (by rw [mv_ps]; exact hb)
  exact ⟨r, hr, rnd_bs hrr (by omega) (by rw [Nat.pow_zero, Nat.mul_one]; exact hb)⟩
theorem zero_in (e : Nat) : Bs 0 e := ⟨by unfold FinW; decide +kernel, by rw [show V single 0 = 0 by decide +kernel]; simp⟩
theorem one_in : Bs 1065353216 0 := ⟨by unfold FinW; decide +kernel, by decide +kernel⟩
theorem two_cast (d : Nat) : (2 : Int) ^ d = ((2 ^ d : Nat) : Int) := by simp
theorem Bs.wide {x e : Nat} (h : Bs x e) (he : e ≤ 1000) : ∃ r, floatToFloatBits .f32 x .f64 = some r ∧ Bd r (D64 + e) := by
  have hd := D64_is
  obtain ⟨r, hr, hrr⟩ := widen_rnd h.1
  refine ⟨r, hr, rnd_bd hrr (by omega) (by omega) ?_⟩
  have hcs : (2 : Int) ^ 925 = ((2 ^ 925 : Nat) : Int) := two_cast 925
  rw [hcs, Int.natAbs_mul, Int.natAbs_natCast, Nat.pow_zero, Nat.mul_one, ← pow_149]
  exact Nat.mul_le_mul_right _ h.2

end Go.Proofs.Ytbefoiikbbjjfaa.sineIn
