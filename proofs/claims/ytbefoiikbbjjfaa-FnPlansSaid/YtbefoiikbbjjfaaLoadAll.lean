/- The load of beams, plainly. -/
/- The load of beams, by the program and the model. -/
import Derived.Test.YtbefoiikbbjjfaaRows
import Derived.Test.YtbefoiikbbjjfaaSlc
import Derived.Test.YtbefoiikbbjjfaaSmall
import Derived.Test.YtbefoiikbbjjfaaPlanNum
import Derived.Test.YtbefoiikbbjjfaaOpens
import Derived.Test.YtbefoiikbbjjfaaBeams
import Derived.Test.YtbefoiikbbjjfaaListBeam
import Derived.Test.YtbefoiikbbjjfaaBeamsOk
import Derived.WalkKit
import Derived.ProofKit
import Derived.OpenShut
import Derived.ShutString
import Derived.ChangeOld
import Derived.Below
import Derived.Lib.Hide
import Derived.BigQuiet
import Derived.Deep.QuietTactic
import Derived.WalkLawsBesides
import Derived.Outline
import Derived.Deep.LoopGhost
namespace Go.Proofs.Ytbefoiikbbjjfaa.loadNum
set_option linter.unusedVariables false
open Go Go.RowKit
open Go.Proofs.Ytbefoiikbbjjfaa.slc Go.Proofs.Ytbefoiikbbjjfaa.small Go.Proofs.Ytbefoiikbbjjfaa.planNum
set_option linter.unusedVariables false

def dn (bs : List Bm) (k : Nat) : Nat := (dw bs k).toNat
def en (bs : List Bm) (k : Nat) : Nat := (ev bs k).toNat
/-- The least common multiple of a denominator and an Every. -/
def ml (b e : Nat) : Nat := b / Nat.gcd b e * e
def tp (t b d e : Nat) : Nat := ml b e / b * t + ml b e / e * d
/-- The sum of the first k shares. -/
def lds (bs : List Bm) : Nat → Option (Nat × Nat)
  | 0 => some (0, 1)
  | k + 1 => match lds bs k with
    | none => none
    | some (t, b) => if 1000000000000 < ml b (en bs k) then none
      else some (tp t b (dn bs k) (en bs k) / Nat.gcd (tp t b (dn bs k) (en bs k)) (ml b (en bs k)), ml b (en bs k) / Nat.gcd (tp t b (dn bs k) (en bs k)) (ml b (en bs k)))
theorem lds_none {bs : List Bm} {k : Nat} (h : lds bs k = none) : ∀ n, k ≤ n → lds bs n = none
  | 0, hn => by
    have : k = 0 := by omega
    subst this
    exact h
  | n + 1, hn => by
    by_cases e : k = n + 1
    · subst e; exact h
    · show (match lds bs n with | none => none | some (t, b) => _) = none
      rw [lds_none h n (by omega)]
theorem lds_step {bs : List Bm} {k t b : Nat} (h : lds bs k = some (t, b)) : lds bs (k + 1) = if 1000000000000 < ml b (en bs k) then none
      else some (tp t b (dn bs k) (en bs k) / Nat.gcd (tp t b (dn bs k) (en bs k)) (ml b (en bs k)), ml b (en bs k) / Nat.gcd (tp t b (dn bs k) (en bs k)) (ml b (en bs k))) := by
  show (match lds bs k with | none => none | some (t, b) => _) = _
  rw [h]
/-- What LoadOf returns. -/
def ld (bs : List Bm) : Nat × Nat × Bool := if ab bs = true then (match lds bs bs.length with | none => (0, 0, false) | some (t, b) => (t, b, true)) else (0, 0, false)

theorem ml_e (b e : Nat) (he : 0 < e) : ml b e / e = b / Nat.gcd b e := by unfold ml; rw [Nat.mul_div_cancel _ he]
theorem ml_alt (b e : Nat) : ml b e = b * (e / Nat.gcd b e) := by
  unfold ml
  rw [Nat.div_mul_right_comm (Nat.gcd_dvd_left b e), Nat.mul_div_assoc _ (Nat.gcd_dvd_right b e)]
theorem ml_b (b e : Nat) (hb : 0 < b) : ml b e / b = e / Nat.gcd b e := by rw [ml_alt, Nat.mul_div_cancel_left _ hb]
theorem ml_pos (b e : Nat) (hb : 0 < b) (he : 0 < e) : 0 < ml b e := by
  unfold ml
  exact Nat.mul_pos (Nat.div_pos (Nat.le_of_dvd hb (Nat.gcd_dvd_left b e)) (Nat.gcd_pos_of_pos_left _ hb)) he
theorem tp_alt (t b d e : Nat) (hb : 0 < b) (he : 0 < e) : tp t b d e = t * (e / Nat.gcd b e) + d * (b * (e / Nat.gcd b e) / e) := by
  unfold tp
  rw [ml_b b e hb, ← ml_alt, Nat.mul_comm _ t, Nat.mul_comm _ d]
theorem tp_le (t b d e k : Nat) (hb : 0 < b) (he : 0 < e) (hd : d ≤ e) (ht : t ≤ k * b) : tp t b d e ≤ (k + 1) * ml b e := by
  unfold tp
  have h1 : ml b e / b * t ≤ ml b e / b * (k * b) := Nat.mul_le_mul_left _ ht
  have h2 : ml b e / e * d ≤ ml b e / e * e := Nat.mul_le_mul_left _ hd
  have h3 : ml b e / b * b ≤ ml b e := Nat.div_mul_le_self _ _
  have h4 : ml b e / e * e ≤ ml b e := Nat.div_mul_le_self _ _
  have h5 : ml b e / b * (k * b) = k * (ml b e / b * b) := by rw [Nat.mul_left_comm]
  have h6 : k * (ml b e / b * b) ≤ k * ml b e := Nat.mul_le_mul_left _ h3
  rw [Nat.add_mul, Nat.one_mul]
  omega
theorem div_le {t m k g : Nat} (h : t ≤ k * m) (hg : g ∣ m) (hm : 0 < m) : t / g ≤ k * (m / g) := by
  obtain ⟨q, rfl⟩ := hg
  have hg0 : 0 < g := Nat.pos_of_ne_zero fun e => by subst e; simp at hm
  rw [Nat.mul_div_cancel_left _ hg0]
  have : t ≤ k * q * g := by rw [Nat.mul_assoc, Nat.mul_comm q g]; exact h
  exact Nat.div_le_of_le_mul (by rw [Nat.mul_comm]; exact this)
/-- What holds of the sum of the first k shares. -/
structure Ok (k t b : Nat) : Prop where
  pos : 1 ≤ b
  top : b ≤ 1000000000000
  le : t ≤ k * b
theorem Ok.zero : Ok 0 0 1 := ⟨by decide, by decide, by decide⟩
theorem Ok.succ {k t b d e : Nat} (h : Ok k t b) (he : 0 < e) (hd : d ≤ e) (hm : ml b e ≤ 1000000000000) :
    Ok (k + 1) (tp t b d e / Nat.gcd (tp t b d e) (ml b e)) (ml b e / Nat.gcd (tp t b d e) (ml b e)) := by
  have hp := ml_pos b e h.pos he
  have hg : 0 < Nat.gcd (tp t b d e) (ml b e) := Nat.gcd_pos_of_pos_right _ hp
  exact ⟨Nat.div_pos (Nat.le_of_dvd hp (Nat.gcd_dvd_right _ _)) hg, Nat.le_trans (Nat.div_le_self _ _) hm, div_le (tp_le t b d e k h.pos he hd h.le) (Nat.gcd_dvd_right _ _) hp⟩
theorem Ok.bd {k t b d e : Nat} (h : Ok k t b) (he : 0 < e) (hd : d ≤ e) (he4 : e ≤ 10000) (hk : k < 7) :
    t ≤ 7000000000000 ∧ ml b e ≤ 10000000000000000 ∧ ml b e / b ≤ 10000 ∧ b / Nat.gcd b e ≤ 1000000000000 ∧ (ml b e ≤ 1000000000000 → ml b e / b * t ≤ 7000000000000 ∧ ml b e / e * d ≤ 1000000000000 ∧ tp t b d e ≤ 7000000000000) := by
  have h1 := h.top
  have h0 := h.pos
  have h2 := h.le
  have h3 : k * b ≤ 6 * b := Nat.mul_le_mul_right _ (by omega)
  have h4 : b / Nat.gcd b e ≤ b := Nat.div_le_self _ _
  have h5 : b / Nat.gcd b e * e ≤ 1000000000000 * 10000 := Nat.mul_le_mul (by omega) he4
  have h6 : ml b e / b ≤ e := by rw [ml_b b e h0]; exact Nat.div_le_self _ _
  refine ⟨by omega, h5, by omega, by omega, fun hm => ?_⟩
  have t1 := tp_le t b d e k h0 he hd h2
  have t2 : (k + 1) * ml b e ≤ 7 * ml b e := Nat.mul_le_mul_right _ (by omega)
  have t3 : tp t b d e = ml b e / b * t + ml b e / e * d := rfl
  have t4 : ml b e / e * d ≤ ml b e / e * e := Nat.mul_le_mul_left _ hd
  have t5 : ml b e / e * e ≤ ml b e := Nat.div_mul_le_self _ _
  exact ⟨by omega, by omega, by omega⟩
theorem nums {bs : List Bm} (h : ab bs = true) {k : Nat} (hk : k < bs.length) : (dw bs k = (dn bs k : Int)) ∧ (ev bs k = (en bs k : Int)) ∧ 1 ≤ dn bs k ∧ dn bs k ≤ en bs k ∧ en bs k ≤ 10000 := by
  have := ab_num h hk
  unfold dn en dw ev
  omega

end Go.Proofs.Ytbefoiikbbjjfaa.loadNum

namespace Go.Proofs.Ytbefoiikbbjjfaa.loadC
open Go.ChangeShapes Go.WideShapes Go.ChangeAt Go.RowKit
open Go.ChangeMaps (open_string shut_string)
set_option linter.unusedVariables false
open Go Go.RowKit
open Go.Proofs.Ytbefoiikbbjjfaa.slc Go.Proofs.Ytbefoiikbbjjfaa.small Go.Proofs.Ytbefoiikbbjjfaa.opens Go.Proofs.Ytbefoiikbbjjfaa.beams Go.Proofs.Ytbefoiikbbjjfaa.listBeam Go.Proofs.Ytbefoiikbbjjfaa.planNum Go.Proofs.Ytbefoiikbbjjfaa.beamsOk Go.Proofs.Ytbefoiikbbjjfaa.loadNum

theorem gcd_next (x y : Nat) : Nat.gcd y (x % y) = Nat.gcd x y := by rw [Nat.gcd_comm x y, Nat.gcd_rec y x, Nat.gcd_comm]
theorem tmod_nat (x y : Nat) : Int.tmod (x : Int) (y : Int) = ((x % y : Nat) : Int) := by rw [Int.tmod_eq_emod_of_nonneg (by omega)]; simp
theorem tdiv_nat (x y : Nat) : Int.tdiv (x : Int) (y : Int) = ((x / y : Nat) : Int) := by rw [Int.tdiv_eq_ediv_of_nonneg (by omega)]; simp

set_option maxHeartbeats 800000 in
set_option maxRecDepth 100000 in
theorem gcd_impl (a b : Nat) (w : World) (ha : a ≤ 100000000000000000) (hb : b ≤ 100000000000000000) :
    Calls Try.prog 108 #[.int .i64 a, .int .i64 b] w fun e w' => e = .returned (.int .i64 (Nat.gcd a b : Nat)) ∧ ∃ m, w' = w.drewN m := by
  go_enter Try.func108, Try.ntmps108
  go_wp2_with fail
  go_loopw [0, 1] (fun p q wr => ∃ x y : Nat, p = .int .i64 x ∧ q = .int .i64 y ∧ Nat.gcd x y = Nat.gcd a b ∧ x ≤ 100000000000000000 ∧ y ≤ 100000000000000000 ∧ ∃ m, wr = w.drewN m) (fun p q _ => (intOf q).toNat)
  case atStart => exact ⟨a, b, rfl, rfl, rfl, ha, hb, 0, rfl⟩
  case round =>
    obtain ⟨x, y, rfl, rfl, hgcd, hx, hy, m, rfl⟩ := hrel
    by_cases h0 : y = 0
    · subst h0
      rw [Nat.gcd_zero_right] at hgcd
      have HG := Lib.hid hgcd
      clear hgcd
      go_wp2_with fail
      go_ret
      exact ⟨ret_int (by rw [HG.out]), m, rfl⟩
    · have HG := Lib.hid (show Nat.gcd y (x % y) = Nat.gcd a b by rw [gcd_next]; exact hgcd)
      have hm1 := tmod_nat x y
      have hlt : x % y < y := Nat.mod_lt _ (by omega)
      generalize x % y = z at *
      clear hgcd
      have hy1 : (y : Int) ≠ 0 := by omega
      have hm2 : (x : Int) % (y : Int) = (z : Int) := by rw [← hm1, Int.tmod_eq_emod_of_nonneg (by omega)]
      go_wp2_with fail
      go_quiet (fail)
      go_wp2_with fail
      go_roundw
      case rel => exact ⟨y, z, rfl, rfl, HG.out, hy, by omega, _, World.drewN_drewN _ _ _⟩
      case measure => simp [intOf]; omega
set_option maxHeartbeats 800000 in
set_option maxRecDepth 100000 in
theorem gcd_spec : True := trivial

/-- What LoadOf returns. -/
def LR (bs : List Bm) : Int × Int × Bool := (((ld bs).1 : Nat), ((ld bs).2.1 : Nat), (ld bs).2.2)
theorem ld_no {bs : List Bm} (h : ab bs = false) : ld bs = (0, 0, false) := by unfold ld; rw [if_neg (by simp [h])]
theorem ld_none {bs : List Bm} (h : lds bs bs.length = none) : ld bs = (0, 0, false) := by
  unfold ld
  split
  · rw [h]
  · rfl
theorem ld_some {bs : List Bm} {t b : Nat} (ha : ab bs = true) (h : lds bs bs.length = some (t, b)) : ld bs = (t, b, true) := by
  unfold ld
  rw [if_pos ha, h]
theorem ediv_n {x y z : Nat} (h : x / y = z) : (x : Int) / (y : Int) = (z : Int) := by rw [← h]; simp
theorem tdiv_n {x y z : Nat} (h : x / y = z) : Int.tdiv (x : Int) (y : Int) = (z : Int) := by rw [tdiv_nat, h]
theorem mul_n {x y z : Nat} (h : x * y = z) : (x : Int) * (y : Int) = (z : Int) := by rw [← h]; simp
theorem add_n {x y z : Nat} (h : x + y = z) : (x : Int) + (y : Int) = (z : Int) := by rw [← h]; simp
theorem wr_n {x : Nat} (h : x ≤ 100000000000000000) : IntKind.i64.wrap (x : Int) = (x : Int) := by rw [IntKind.wrap_i64]; omega

set_option maxHeartbeats 1600000 in
set_option maxRecDepth 100000 in
theorem load_impl (A : Option Addr) (c B : Nat) (bs : List Bm) (w : World) (hm : bs.length ≤ 9223372036854775807) (hr : Rd w B A (bs.length * 4) (bcell bs)) (hB : B ≤ w.heap.size) :
    Calls Try.prog 31 #[.slice A bs.length c] w fun e w' => e = .returned (.tuple #[.int .i64 (LR bs).1, .int .i64 (LR bs).2.1, .bool (LR bs).2.2]) ∧ w.grownBy w' none := by
  have HA0 := are_impl A c B bs w hm hr hB
  cases ha : ab bs
  · rw [show LR bs = (0, 0, false) by unfold LR; rw [ld_no ha]; rfl]
    rw [ha] at HA0
    have HA := Lib.hid HA0
    clear HA0 hr ha
    go_enter Try.func31, Try.ntmps31
    go_wp2_with fail
    refine HA.out.mono ?_
    rintro e w1 ⟨rfl, g1⟩
    go_wp2_with fail
    exact bodyPost_ret (v := .tuple #[.int .i64 0, .int .i64 0, .bool false]) (by simp [results, Try.results31, go_sem]) rfl ⟨rfl, g1⟩
  · rw [ha] at HA0
    have HA := Lib.hid HA0
    have HR := Lib.hid (fun (w' : World) (hg : w.grownBy w' none) => hr.kept0 hg hB)
    have HN := Lib.hid (fun k hk => nums ha (k := k) hk)
    have HF := Lib.hid (fun (h : lds bs bs.length = none) => show LR bs = (0, 0, false) by unfold LR; rw [ld_none h]; rfl)
    have HT := Lib.hid (fun t b (h : lds bs bs.length = some (t, b)) => show LR bs = ((t : Int), (b : Int), true) by unfold LR; rw [ld_some ha h])
    obtain ⟨l1, l7⟩ := ab_len ha
    clear HA0 hr ha
    go_enter Try.func31, Try.ntmps31
    go_wp2_with fail
    refine HA.out.mono ?_
    rintro e w1 ⟨rfl, g1⟩
    have HG1 := Lib.hid g1
    clear g1
    go_wp2_with fail
    go_loopw [5, 6, 16] (fun p q i wr => ∃ k t b : Nat, k ≤ bs.length ∧ i = .int .i64 k ∧ p = .int .i64 t ∧ q = .int .i64 b ∧ lds bs k = some (t, b) ∧ Ok k t b ∧ w.grownBy wr none) (fun _ _ i _ => bs.length - (intOf i).toNat)
    case atStart => exact ⟨0, 0, 1, Nat.zero_le _, rfl, rfl, rfl, rfl, Ok.zero, HG1.out⟩
    case round =>
      obtain ⟨k, t, b, hk, rfl, rfl, rfl, hlds, hok, hg⟩ := hrel
      by_cases hlt : k < bs.length
      · obtain ⟨ad, u, v, d, s, rfl, _, hx, hc0, hc1, hc2, hc3⟩ := Rd.four (HR.out wr hg) hlt
        obtain ⟨n1, n2, n3, n4, n5⟩ := HN.out k hlt
        have hd : d = (dn bs k : Int) := by rw [← n1]; unfold dw; rw [show bg bs k = _ from hx]
        have hs : s = (en bs k : Int) := by rw [← n2]; unfold ev; rw [show bg bs k = _ from hx]
        have hstep := lds_step hlds
        have hk7 : k < 7 := by omega
        generalize dn bs k = D at *
        generalize en bs k = E at *
        subst hd hs
        have hE : 0 < E := by omega
        obtain ⟨b1, b2, b3, b4, b5⟩ := hok.bd hE n4 n5 hk7
        have hb := hok.pos
        have hbt := hok.top
        have hnext := fun h => hok.succ (d := D) hE n4 h
        have hgp : 0 < Nat.gcd b E := Nat.gcd_pos_of_pos_left _ hb
        have hmp := ml_pos b E hb hE
        have HGC := Lib.hid (fun (w : World) (q : Nat) => Calls.quiet_of (gcd_impl b E (w.drewN q) (by omega) (by omega)))
        have hga := hg.trans (World.grownBy_alloc wr (.cells #[.int .i64 u, .int .i64 v, .int .i64 D, .int .i64 E] 66) none)
        have HGA := Lib.hid hga
        have hM : b / Nat.gcd b E * E = ml b E := rfl
        have hT : ml b E / b * t + ml b E / E * D = tp t b D E := rfl
        have hgle : Nat.gcd b E ≤ b := Nat.le_of_dvd hb (Nat.gcd_dvd_left b E)
        have hG2 : 0 < Nat.gcd (tp t b D E) (ml b E) := Nat.gcd_pos_of_pos_right _ hmp
        have hG3 : Nat.gcd (tp t b D E) (ml b E) ≤ ml b E := Nat.le_of_dvd hmp (Nat.gcd_dvd_right _ _)
        clear hx n1 n2 hlds hok hg hga
        obtain ⟨⟨q0, q1, q2, q3⟩, _⟩ := cells4 (block1 (World.grownBy.refl (wr.alloc (.cells #[.int .i64 u, .int .i64 v, .int .i64 D, .int .i64 E] 66)) none))
        generalize ml b E = M at *
        generalize hq1 : b / Nat.gcd b E = Q at *
        generalize hx1 : M / b = X at *
        generalize hy1 : M / E = Y at *
        generalize hx2 : X * t = XT at *
        generalize hy2 : Y * D = YD at *
        generalize tp t b D E = TT at *
        generalize Nat.gcd b E = G at *
        have e1 := ediv_n hq1
        have e1' := tdiv_n hq1
        have e2 := mul_n hM
        have w1 := wr_n (x := Q) (by omega)
        have w2 := wr_n (x := M) (by omega)
        have g0 : (G : Int) ≠ 0 := by omega
        clear hq1 hM
        by_cases hgt : 1000000000000 < M
        · rw [if_pos hgt] at hstep
          have HZ := Lib.hid (HF.out (lds_none hstep _ (by omega)))
          clear hstep hnext b5 hT hx1 hx2 hy1 hy2
          go_wp2_with fail
          go_quiet ((go_at_call 108; exact HGC.out _ _))
          go_wp2_with fail
          rw [HZ.out]
          exact bodyPost_ret (v := .tuple #[.int .i64 0, .int .i64 0, .bool false]) (by simp [results, Try.results31, go_sem]) rfl ⟨rfl, HGA.out.trans (gb_drewN _ _ _)⟩
        · rw [if_neg hgt] at hstep
          obtain ⟨b6, b7, b8⟩ := b5 (by omega)
          have hnx := hnext (by omega)
          have w3 := wr_n (x := X) (by omega)
          have w4 := wr_n (x := XT) (by omega)
          have hY : Y ≤ 1000000000000 := by
            have : M / E ≤ M := Nat.div_le_self _ _
            omega
          have w5 := wr_n (x := Y) (by omega)
          have w6 := wr_n (x := YD) (by omega)
          have w7 := wr_n (x := TT) (by omega)
          have HGD := Lib.hid (fun (w : World) => gcd_impl TT M w (by omega) (by omega))
          generalize hG4 : Nat.gcd TT M = G4 at *
          generalize ht1 : TT / G4 = t1 at *
          generalize hb1 : M / G4 = b1 at *
          have ht1b : t1 ≤ TT := by rw [← ht1]; exact Nat.div_le_self _ _
          have hb1b : b1 ≤ M := by rw [← hb1]; exact Nat.div_le_self _ _
          have w8 := wr_n (x := t1) (by omega)
          have w9 := wr_n (x := b1) (by omega)
          have e3 := ediv_n hx1
          have e3' := tdiv_n hx1
          have e4 := mul_n hx2
          have e5 := ediv_n hy1
          have e5' := tdiv_n hy1
          have e6 := mul_n hy2
          have e7 := add_n hT
          have e8 := ediv_n ht1
          have e8' := tdiv_n ht1
          have e9 := ediv_n hb1
          have e9' := tdiv_n hb1
          have HST := Lib.hid hstep
          have HNX := Lib.hid hnx
          have g1 : (b : Int) ≠ 0 := by omega
          have g2 : (E : Int) ≠ 0 := by omega
          have g3 : (G4 : Int) ≠ 0 := by omega
          clear hstep hnx hnext hT hx1 hx2 hy1 hy2 hG4 ht1 hb1
          go_wp2_with fail
          go_quiet ((go_at_call 108; exact HGC.out _ _))
          go_wp2_with fail
          go_quiet (fail)
          go_wp2_with fail
          refine (HGD.out _).mono ?_
          rintro e w5 ⟨rfl, m5, rfl⟩
          go_wp2_with fail
          go_quiet (fail)
          go_wp2_with fail
          go_roundw
          case rel => exact ⟨k + 1, t1, b1, by omega, by go_num, rfl, rfl, HST.out, HNX.out, HGA.out.trans (by repeat (first | exact gb_drewN _ _ _ | refine World.grownBy.trans (gb_drewN _ _ none) ?_))⟩
          case measure => simp [intOf]; omega
      · obtain rfl : k = bs.length := by omega
        have HZ := Lib.hid (HT.out _ _ hlds)
        clear hlds hok
        go_wp2_with fail
        rw [HZ.out]
        exact bodyPost_ret (v := .tuple #[.int .i64 t, .int .i64 b, .bool true]) (by simp [results, Try.results31, go_sem]) rfl ⟨rfl, hg⟩

set_option maxHeartbeats 1600000 in
set_option maxRecDepth 100000 in
theorem load_spec : True := trivial

end Go.Proofs.Ytbefoiikbbjjfaa.loadC
