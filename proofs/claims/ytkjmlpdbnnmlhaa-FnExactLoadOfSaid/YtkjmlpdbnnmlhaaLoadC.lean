/- The load of beams, by the program and the model. -/
import Derived.Test.YtkjmlpdbnnmlhaaRows
import Derived.Test.YtkjmlpdbnnmlhaaSlc
import Derived.Test.YtkjmlpdbnnmlhaaSmall
import Derived.Test.YtkjmlpdbnnmlhaaOpens
import Derived.Test.YtkjmlpdbnnmlhaaBeams
import Derived.Test.YtkjmlpdbnnmlhaaListBeam
import Derived.Test.YtkjmlpdbnnmlhaaPlanNum
import Derived.Test.YtkjmlpdbnnmlhaaBeamsOk
import Derived.Test.YtkjmlpdbnnmlhaaLoadNum
import Derived.WalkKit
import Derived.ProofKit
import Derived.OpenShut
import Derived.ShutString
import Derived.ChangeOld
import Derived.Below
import Derived.Lib.Hide
import Derived.BigQuiet
import Derived.Deep.QuietTactic
import Derived.WalkLawsBesides
import Derived.Outline
import Derived.Deep.QuietTactic
import Derived.BigQuiet
import Derived.Deep.LoopGhost
namespace Go.Proofs.Ytkjmlpdbnnmlhaa.loadC
open Go.ChangeShapes Go.WideShapes Go.ChangeAt Go.RowKit
open Go.ChangeMaps (open_string shut_string)
set_option linter.unusedVariables false
open Go Go.RowKit
open Go.Proofs.Ytkjmlpdbnnmlhaa.slc Go.Proofs.Ytkjmlpdbnnmlhaa.small Go.Proofs.Ytkjmlpdbnnmlhaa.opens Go.Proofs.Ytkjmlpdbnnmlhaa.beams Go.Proofs.Ytkjmlpdbnnmlhaa.listBeam Go.Proofs.Ytkjmlpdbnnmlhaa.planNum Go.Proofs.Ytkjmlpdbnnmlhaa.beamsOk Go.Proofs.Ytkjmlpdbnnmlhaa.loadNum

theorem gcd_next (x y : Nat) : Nat.gcd y (x % y) = Nat.gcd x y := by rw [Nat.gcd_comm x y, Nat.gcd_rec y x, Nat.gcd_comm]
theorem tmod_nat (x y : Nat) : Int.tmod (x : Int) (y : Int) = ((x % y : Nat) : Int) := by rw [Int.tmod_eq_emod_of_nonneg (by omega)]; simp
theorem tdiv_nat (x y : Nat) : Int.tdiv (x : Int) (y : Int) = ((x / y : Nat) : Int) := by rw [Int.tdiv_eq_ediv_of_nonneg (by omega)]; simp

set_option maxHeartbeats 800000 in
set_option maxRecDepth 100000 in
theorem gcd_impl (a b : Nat) (w : World) (ha : a ≤ 100000000000000000) (hb : b ≤ 100000000000000000) :
    Calls Try.prog 70 #[.int .i64 a, .int .i64 b] w fun e w' => e = .returned (.int .i64 (Nat.gcd a b : Nat)) ∧ ∃ m, w' = w.drewN m := by
  go_enter Try.func70, Try.ntmps70
  go_wp2_with fail
  go_loopw [0, 1] (fun p q wr => ∃ x y : Nat, p = .int .i64 x ∧ q = .int .i64 y ∧ Nat.gcd x y = Nat.gcd a b ∧ x ≤ 100000000000000000 ∧ y ≤ 100000000000000000 ∧ ∃ m, wr = w.drewN m) (fun p q _ => (intOf q).toNat)
  case atStart => exact ⟨a, b, rfl, rfl, rfl, ha, hb, 0, rfl⟩
  case round =>
    obtain ⟨x, y, rfl, rfl, hgcd, hx, hy, m, rfl⟩ := hrel
    by_cases h0 : y = 0
    · subst h0
      rw [Nat.gcd_zero_right] at hgcd
      have HG := Lib.hid hgcd
      clear hgcd
      go_wp2_with fail
      go_ret
      exact ⟨ret_int (by rw [HG.out]), m, rfl⟩
    · have HG := Lib.hid (show Nat.gcd y (x % y) = Nat.gcd a b by rw [gcd_next]; exact hgcd)
      have hm1 := tmod_nat x y
      have hlt : x % y < y := Nat.mod_lt _ (by omega)
      generalize x % y = z at *
      clear hgcd
      have hy1 : (y : Int) ≠ 0 := by omega
      have hm2 : (x : Int) % (y : Int) = (z : Int) := by rw [← hm1, Int.tmod_eq_emod_of_nonneg (by omega)]
      go_wp2_with fail
      go_quiet (fail)
      go_wp2_with fail
      go_roundw
      case rel => exact ⟨y, z, rfl, rfl, HG.out, hy, by omega, _, World.drewN_drewN _ _ _⟩
      case measure => simp [intOf]; omega
set_option maxHeartbeats 800000 in
set_option maxRecDepth 100000 in
theorem gcd_spec (a b : Nat) (w : World) (ha : a ≤ 100000000000000000) (hb : b ≤ 100000000000000000) :
    Calls Try.prog 69 #[.int .i64 a, .int .i64 b] w fun e w' => e = .returned (.int .i64 (Nat.gcd a b : Nat)) ∧ w = w' := by
  go_enter Try.func69, Try.ntmps69
  go_wp2_with fail
  go_loopw [0, 1] (fun p q wr => ∃ x y : Nat, p = .int .i64 x ∧ q = .int .i64 y ∧ Nat.gcd x y = Nat.gcd a b ∧ x ≤ 100000000000000000 ∧ y ≤ 100000000000000000 ∧ wr = w) (fun p q _ => (intOf q).toNat)
  case atStart => exact ⟨a, b, rfl, rfl, rfl, ha, hb, by first | trivial | rfl⟩
  case round =>
    obtain ⟨x, y, rfl, rfl, hgcd, hx, hy, rfl⟩ := hrel
    by_cases h0 : y = 0
    · subst h0
      rw [Nat.gcd_zero_right] at hgcd
      have HG := Lib.hid hgcd
      clear hgcd
      go_wp2_with fail
      go_ret
      exact ⟨ret_int (by rw [HG.out]), by first | trivial | rfl⟩
    · have HG := Lib.hid (show Nat.gcd y (x % y) = Nat.gcd a b by rw [gcd_next]; exact hgcd)
      have hm1 := tmod_nat x y
      have hlt : x % y < y := Nat.mod_lt _ (by omega)
      generalize x % y = z at *
      clear hgcd
      have hy1 : (y : Int) ≠ 0 := by omega
      have hy2 : (0 : Int) < (y : Int) := by omega
      have hm2 : (x : Int) % (y : Int) = (z : Int) := by rw [← hm1, Int.tmod_eq_emod_of_nonneg (by omega)]
      go_wp2_with fail
      go_roundw
      case rel => exact ⟨y, z, rfl, rfl, HG.out, hy, by omega, by first | trivial | rfl⟩
      case measure => simp [intOf]; omega

/-- What LoadOf returns. -/
def LR (bs : List Bm) : Int × Int × Bool := (((ld bs).1 : Nat), ((ld bs).2.1 : Nat), (ld bs).2.2)
theorem ld_no {bs : List Bm} (h : ab bs = false) : ld bs = (0, 0, false) := by unfold ld; rw [if_neg (by simp [h])]
theorem ld_none {bs : List Bm} (h : lds bs bs.length = none) : ld bs = (0, 0, false) := by
  unfold ld
  split
  · rw [h]
  · rfl
theorem ld_some {bs : List Bm} {t b : Nat} (ha : ab bs = true) (h : lds bs bs.length = some (t, b)) : ld bs = (t, b, true) := by
  unfold ld
  rw [if_pos ha, h]
theorem ediv_n {x y z : Nat} (h : x / y = z) : (x : Int) / (y : Int) = (z : Int) := by rw [← h]; simp
theorem tdiv_n {x y z : Nat} (h : x / y = z) : Int.tdiv (x : Int) (y : Int) = (z : Int) := by rw [tdiv_nat, h]
theorem mul_n {x y z : Nat} (h : x * y = z) : (x : Int) * (y : Int) = (z : Int) := by rw [← h]; simp
theorem add_n {x y z : Nat} (h : x + y = z) : (x : Int) + (y : Int) = (z : Int) := by rw [← h]; simp
theorem wr_n {x : Nat} (h : x ≤ 100000000000000000) : IntKind.i64.wrap (x : Int) = (x : Int) := by rw [IntKind.wrap_i64]; omega

set_option maxHeartbeats 1600000 in
set_option maxRecDepth 100000 in
theorem load_impl (A : Option Addr) (c B : Nat) (bs : List Bm) (w : World) (hm : bs.length ≤ 9223372036854775807) (hr : Rd w B A (bs.length * 4) (bcell bs)) (hB : B ≤ w.heap.size) :
    Calls Try.prog 24 #[.slice A bs.length c] w fun e w' => e = .returned (.tuple #[.int .i64 (LR bs).1, .int .i64 (LR bs).2.1, .bool (LR bs).2.2]) ∧ w.grownBy w' none := by
  have HA0 := are_impl A c B bs w hm hr hB
  cases ha : ab bs
  · rw [show LR bs = (0, 0, false) by unfold LR; rw [ld_no ha]; rfl]
    rw [ha] at HA0
    have HA := Lib.hid HA0
    clear HA0 hr ha
    go_enter Try.func24, Try.ntmps24
    go_wp2_with fail
    refine HA.out.mono ?_
    rintro e w1 ⟨rfl, g1⟩
    go_wp2_with fail
    exact bodyPost_ret (v := .tuple #[.int .i64 0, .int .i64 0, .bool false]) (by simp [results, Try.results24, go_sem]) rfl ⟨rfl, g1⟩
  · rw [ha] at HA0
    have HA := Lib.hid HA0
    have HR := Lib.hid (fun (w' : World) (hg : w.grownBy w' none) => hr.kept0 hg hB)
    have HN := Lib.hid (fun k hk => nums ha (k := k) hk)
    have HF := Lib.hid (fun (h : lds bs bs.length = none) => show LR bs = (0, 0, false) by unfold LR; rw [ld_none h]; rfl)
    have HT := Lib.hid (fun t b (h : lds bs bs.length = some (t, b)) => show LR bs = ((t : Int), (b : Int), true) by unfold LR; rw [ld_some ha h])
    obtain ⟨l1, l7⟩ := ab_len ha
    clear HA0 hr ha
    go_enter Try.func24, Try.ntmps24
    go_wp2_with fail
    refine HA.out.mono ?_
    rintro e w1 ⟨rfl, g1⟩
    have HG1 := Lib.hid g1
    clear g1
    go_wp2_with fail
    go_loopw [5, 6, 16] (fun p q i wr => ∃ k t b : Nat, k ≤ bs.length ∧ i = .int .i64 k ∧ p = .int .i64 t ∧ q = .int .i64 b ∧ lds bs k = some (t, b) ∧ Ok k t b ∧ w.grownBy wr none) (fun _ _ i _ => bs.length - (intOf i).toNat)
    case atStart => exact ⟨0, 0, 1, Nat.zero_le _, rfl, rfl, rfl, rfl, Ok.zero, HG1.out⟩
    case round =>
      obtain ⟨k, t, b, hk, rfl, rfl, rfl, hlds, hok, hg⟩ := hrel
      by_cases hlt : k < bs.length
      · obtain ⟨ad, u, v, d, s, rfl, _, hx, hc0, hc1, hc2, hc3⟩ := Rd.four (HR.out wr hg) hlt
        obtain ⟨n1, n2, n3, n4, n5⟩ := HN.out k hlt
        have hd : d = (dn bs k : Int) := by rw [← n1]; unfold dw; rw [show bg bs k = _ from hx]
        have hs : s = (en bs k : Int) := by rw [← n2]; unfold ev; rw [show bg bs k = _ from hx]
        have hstep := lds_step hlds
        have hk7 : k < 7 := by omega
        generalize dn bs k = D at *
        generalize en bs k = E at *
        subst hd hs
        have hE : 0 < E := by omega
        obtain ⟨b1, b2, b3, b4, b5⟩ := hok.bd hE n4 n5 hk7
        have hb := hok.pos
        have hbt := hok.top
        have hnext := fun h => hok.succ (d := D) hE n4 h
        have hgp : 0 < Nat.gcd b E := Nat.gcd_pos_of_pos_left _ hb
        have hmp := ml_pos b E hb hE
        have HGC := Lib.hid (fun (w : World) (q : Nat) => Calls.quiet_of (gcd_impl b E (w.drewN q) (by omega) (by omega)))
        have hga := hg.trans (World.grownBy_alloc wr (.cells #[.int .i64 u, .int .i64 v, .int .i64 D, .int .i64 E] 78) none)
        have HGA := Lib.hid hga
        have hM : b / Nat.gcd b E * E = ml b E := rfl
        have hT : ml b E / b * t + ml b E / E * D = tp t b D E := rfl
        have hgle : Nat.gcd b E ≤ b := Nat.le_of_dvd hb (Nat.gcd_dvd_left b E)
        have hG2 : 0 < Nat.gcd (tp t b D E) (ml b E) := Nat.gcd_pos_of_pos_right _ hmp
        have hG3 : Nat.gcd (tp t b D E) (ml b E) ≤ ml b E := Nat.le_of_dvd hmp (Nat.gcd_dvd_right _ _)
        clear hx n1 n2 hlds hok hg hga
        obtain ⟨⟨q0, q1, q2, q3⟩, _⟩ := cells4 (block1 (World.grownBy.refl (wr.alloc (.cells #[.int .i64 u, .int .i64 v, .int .i64 D, .int .i64 E] 78)) none))
        generalize ml b E = M at *
        generalize hq1 : b / Nat.gcd b E = Q at *
        generalize hx1 : M / b = X at *
        generalize hy1 : M / E = Y at *
        generalize hx2 : X * t = XT at *
        generalize hy2 : Y * D = YD at *
        generalize tp t b D E = TT at *
        generalize Nat.gcd b E = G at *
        have e1 := ediv_n hq1
        have e1' := tdiv_n hq1
        have e2 := mul_n hM
        have w1 := wr_n (x := Q) (by omega)
        have w2 := wr_n (x := M) (by omega)
        have g0 : (G : Int) ≠ 0 := by omega
        clear hq1 hM
        by_cases hgt : 1000000000000 < M
        · rw [if_pos hgt] at hstep
          have HZ := Lib.hid (HF.out (lds_none hstep _ (by omega)))
          clear hstep hnext b5 hT hx1 hx2 hy1 hy2
          go_wp2_with fail
          go_quiet ((go_at_call 70; exact HGC.out _ _))
          go_wp2_with fail
          rw [HZ.out]
          exact bodyPost_ret (v := .tuple #[.int .i64 0, .int .i64 0, .bool false]) (by simp [results, Try.results24, go_sem]) rfl ⟨rfl, HGA.out.trans (gb_drewN _ _ _)⟩
        · rw [if_neg hgt] at hstep
          obtain ⟨b6, b7, b8⟩ := b5 (by omega)
          have hnx := hnext (by omega)
          have w3 := wr_n (x := X) (by omega)
          have w4 := wr_n (x := XT) (by omega)
          have hY : Y ≤ 1000000000000 := by
            have : M / E ≤ M := Nat.div_le_self _ _
            omega
          have w5 := wr_n (x := Y) (by omega)
          have w6 := wr_n (x := YD) (by omega)
          have w7 := wr_n (x := TT) (by omega)
          have HGD := Lib.hid (fun (w : World) => gcd_impl TT M w (by omega) (by omega))
          generalize hG4 : Nat.gcd TT M = G4 at *
          generalize ht1 : TT / G4 = t1 at *
          generalize hb1 : M / G4 = b1 at *
          have ht1b : t1 ≤ TT := by rw [← ht1]; exact Nat.div_le_self _ _
          have hb1b : b1 ≤ M := by rw [← hb1]; exact Nat.div_le_self _ _
          have w8 := wr_n (x := t1) (by omega)
          have w9 := wr_n (x := b1) (by omega)
          have e3 := ediv_n hx1
          have e3' := tdiv_n hx1
          have e4 := mul_n hx2
          have e5 := ediv_n hy1
          have e5' := tdiv_n hy1
          have e6 := mul_n hy2
          have e7 := add_n hT
          have e8 := ediv_n ht1
          have e8' := tdiv_n ht1
          have e9 := ediv_n hb1
          have e9' := tdiv_n hb1
          have HST := Lib.hid hstep
          have HNX := Lib.hid hnx
          have g1 : (b : Int) ≠ 0 := by omega
          have g2 : (E : Int) ≠ 0 := by omega
          have g3 : (G4 : Int) ≠ 0 := by omega
          clear hstep hnx hnext hT hx1 hx2 hy1 hy2 hG4 ht1 hb1
          go_wp2_with fail
          go_quiet ((go_at_call 70; exact HGC.out _ _))
          go_wp2_with fail
          go_quiet (fail)
          go_wp2_with fail
          refine (HGD.out _).mono ?_
          rintro e w5 ⟨rfl, m5, rfl⟩
          go_wp2_with fail
          go_quiet (fail)
          go_wp2_with fail
          go_roundw
          case rel => exact ⟨k + 1, t1, b1, by omega, by go_num, rfl, rfl, HST.out, HNX.out, HGA.out.trans (by repeat (first | exact gb_drewN _ _ _ | refine World.grownBy.trans (gb_drewN _ _ none) ?_))⟩
          case measure => simp [intOf]; omega
      · obtain rfl : k = bs.length := by omega
        have HZ := Lib.hid (HT.out _ _ hlds)
        clear hlds hok
        go_wp2_with fail
        rw [HZ.out]
        exact bodyPost_ret (v := .tuple #[.int .i64 t, .int .i64 b, .bool true]) (by simp [results, Try.results24, go_sem]) rfl ⟨rfl, hg⟩

set_option maxHeartbeats 1600000 in
set_option maxRecDepth 100000 in
theorem load_spec (A : Option Addr) (c B : Nat) (bs : List Bm) (w : World) (hm : bs.length ≤ 9223372036854775807) (hr : Rd w B A (bs.length * 4) (bcell bs)) (hB : B ≤ w.heap.size) :
    Calls Try.prog 23 #[.slice A bs.length c] w fun e w' => e = .returned (.tuple #[.int .i64 (LR bs).1, .int .i64 (LR bs).2.1, .bool (LR bs).2.2]) ∧ w.grownBy w' none := by
  have HA0 := are_spec A c B bs w hm hr hB
  cases ha : ab bs
  · rw [show LR bs = (0, 0, false) by unfold LR; rw [ld_no ha]; rfl]
    rw [ha] at HA0
    have HA := Lib.hid HA0
    clear HA0 hr ha
    go_enter Try.func23, Try.ntmps23
    go_wp2_with fail
    refine HA.out.mono ?_
    rintro e w1 ⟨rfl, g1⟩
    go_wp2_with fail
    exact bodyPost_ret (v := .tuple #[.int .i64 0, .int .i64 0, .bool false]) (by simp [results, Try.results23, go_sem]) rfl ⟨rfl, g1⟩
  · rw [ha] at HA0
    have HA := Lib.hid HA0
    have HR := Lib.hid (fun (w' : World) (hg : w.grownBy w' none) => hr.kept0 hg hB)
    have HN := Lib.hid (fun k hk => nums ha (k := k) hk)
    have HF := Lib.hid (fun (h : lds bs bs.length = none) => show LR bs = (0, 0, false) by unfold LR; rw [ld_none h]; rfl)
    have HT := Lib.hid (fun t b (h : lds bs bs.length = some (t, b)) => show LR bs = ((t : Int), (b : Int), true) by unfold LR; rw [ld_some ha h])
    obtain ⟨l1, l7⟩ := ab_len ha
    clear HA0 hr ha
    go_enter Try.func23, Try.ntmps23
    go_wp2_with fail
    refine HA.out.mono ?_
    rintro e w1 ⟨rfl, g1⟩
    have HG1 := Lib.hid g1
    clear g1
    go_wp2_with fail
    go_loopw [5, 6, 15] (fun p q i wr => ∃ k t b : Nat, k ≤ bs.length ∧ i = .int .i64 k ∧ p = .int .i64 t ∧ q = .int .i64 b ∧ lds bs k = some (t, b) ∧ Ok k t b ∧ w.grownBy wr none) (fun _ _ i _ => bs.length - (intOf i).toNat)
    case atStart => exact ⟨0, 0, 1, Nat.zero_le _, rfl, rfl, rfl, rfl, Ok.zero, HG1.out⟩
    case round =>
      obtain ⟨k, t, b, hk, rfl, rfl, rfl, hlds, hok, hg⟩ := hrel
      by_cases hlt : k < bs.length
      · obtain ⟨ad, u, v, d, s, rfl, _, hx, hc0, hc1, hc2, hc3⟩ := Rd.four (HR.out wr hg) hlt
        obtain ⟨n1, n2, n3, n4, n5⟩ := HN.out k hlt
        have hd : d = (dn bs k : Int) := by rw [← n1]; unfold dw; rw [show bg bs k = _ from hx]
        have hs : s = (en bs k : Int) := by rw [← n2]; unfold ev; rw [show bg bs k = _ from hx]
        have hstep := lds_step hlds
        have hk7 : k < 7 := by omega
        generalize dn bs k = D at *
        generalize en bs k = E at *
        subst hd hs
        have hE : 0 < E := by omega
        obtain ⟨b1, b2, b3, b4, b5⟩ := hok.bd hE n4 n5 hk7
        have hb := hok.pos
        have hbt := hok.top
        have hnext := fun h => hok.succ (d := D) hE n4 h
        have hgp : 0 < Nat.gcd b E := Nat.gcd_pos_of_pos_left _ hb
        have hmp := ml_pos b E hb hE
        have HGC := Lib.hid (fun (w : World) (q : Nat) => Calls.quiet_of_same ((gcd_spec b E (w.drewN q) (by omega) (by omega)).mono (by rintro e w' ⟨rfl, rfl⟩; exact ⟨rfl, rfl⟩)))
        have HGA := Lib.hid hg
        have hM : b * (E / Nat.gcd b E) = ml b E := (ml_alt b E).symm
        have hT : t * (E / Nat.gcd b E) + D * (ml b E / E) = tp t b D E := by rw [tp_alt t b D E hb hE, ml_alt]
        have hXT : t * (E / Nat.gcd b E) ≤ 7000000000000 ∨ 1000000000000 < ml b E := by
          by_cases h : ml b E ≤ 1000000000000
          · left
            have := (b5 h).1
            rw [ml_b b E hb, Nat.mul_comm] at this
            exact this
          · right; omega
        have hYD : D * (ml b E / E) ≤ 1000000000000 ∨ 1000000000000 < ml b E := by
          by_cases h : ml b E ≤ 1000000000000
          · left
            have := (b5 h).2.1
            rw [Nat.mul_comm] at this
            exact this
          · right; omega
        have hFE : E / Nat.gcd b E ≤ E := Nat.div_le_self _ _
        have hgle : Nat.gcd b E ≤ b := Nat.le_of_dvd hb (Nat.gcd_dvd_left b E)
        have hG2 : 0 < Nat.gcd (tp t b D E) (ml b E) := Nat.gcd_pos_of_pos_right _ hmp
        have hG3 : Nat.gcd (tp t b D E) (ml b E) ≤ ml b E := Nat.le_of_dvd hmp (Nat.gcd_dvd_right _ _)
        have hTT : tp t b D E ≤ 7000000000000 ∨ 1000000000000 < ml b E := by
          by_cases h : ml b E ≤ 1000000000000
          · exact .inl (b5 h).2.2
          · right; omega
        clear hx n1 n2 hlds hok hg b3 b4 b5
        generalize ml b E = M at *
        generalize hq1 : E / Nat.gcd b E = F at *
        generalize hy1 : M / E = Y at *
        generalize hx2 : t * F = XT at *
        generalize hy2 : D * Y = YD at *
        generalize tp t b D E = TT at *
        generalize Nat.gcd b E = G at *
        have e1 := ediv_n hq1
        have e1' := tdiv_n hq1
        have e2 := mul_n hM
        have w1 := wr_n (x := F) (by omega)
        have w2 := wr_n (x := M) (by omega)
        have g0 : (G : Int) ≠ 0 := by omega
        have k0 : (0 : Int) ≤ (k : Int) := by omega
        have k1 : (k : Int) < (bs.length : Int) := by omega
        clear hq1 hM
        by_cases hgt : 1000000000000 < M
        · rw [if_pos hgt] at hstep
          have HZ := Lib.hid (HF.out (lds_none hstep _ (by omega)))
          clear hstep hnext hT hy1 hx2 hy2
          go_wp2_with fail
          go_quiet ((go_at_call 69; exact HGC.out _ _))
          go_wp2_with fail
          rw [HZ.out]
          exact bodyPost_ret (v := .tuple #[.int .i64 0, .int .i64 0, .bool false]) (by simp [results, Try.results23, go_sem]) rfl ⟨rfl, HGA.out.trans (gb_drewN _ _ _)⟩
        · rw [if_neg hgt] at hstep
          have hnx := hnext (by omega)
          have w4 := wr_n (x := XT) (by omega)
          have hY : Y ≤ 1000000000000 := by
            have : M / E ≤ M := Nat.div_le_self _ _
            omega
          have w5 := wr_n (x := Y) (by omega)
          have w6 := wr_n (x := YD) (by omega)
          have w7 := wr_n (x := TT) (by omega)
          have HGD := Lib.hid (fun (w : World) => gcd_spec TT M w (by omega) (by omega))
          generalize hG4 : Nat.gcd TT M = G4 at *
          generalize ht1 : TT / G4 = t1 at *
          generalize hb1 : M / G4 = b1 at *
          have ht1b : t1 ≤ TT := by rw [← ht1]; exact Nat.div_le_self _ _
          have hb1b : b1 ≤ M := by rw [← hb1]; exact Nat.div_le_self _ _
          have w8 := wr_n (x := t1) (by omega)
          have w9 := wr_n (x := b1) (by omega)
          have e4 := mul_n hx2
          have e5 := ediv_n hy1
          have e5' := tdiv_n hy1
          have e6 := mul_n hy2
          have e7 := add_n hT
          have e8 := ediv_n ht1
          have e8' := tdiv_n ht1
          have e9 := ediv_n hb1
          have e9' := tdiv_n hb1
          have HST := Lib.hid hstep
          have HNX := Lib.hid hnx
          have g2 : (E : Int) ≠ 0 := by omega
          have g3 : (G4 : Int) ≠ 0 := by omega
          clear hstep hnext hT hx2 hy1 hy2 hG4 ht1 hb1
          go_wp2_with fail
          go_quiet ((go_at_call 69; exact HGC.out _ _))
          go_wp2_with fail
          go_quiet (fail)
          go_wp2_with fail
          refine (HGD.out _).mono ?_
          rintro e w' ⟨rfl, rfl⟩
          go_wp2_with fail
          go_roundw
          case rel => exact ⟨k + 1, t1, b1, by omega, by go_num, rfl, rfl, HST.out, HNX.out, HGA.out.trans (by repeat (first | exact gb_drewN _ _ _ | refine World.grownBy.trans (gb_drewN _ _ none) ?_))⟩
          case measure => simp [intOf]; omega
      · obtain rfl : k = bs.length := by omega
        have HZ := Lib.hid (HT.out _ _ hlds)
        clear hlds hok
        go_wp2_with fail
        rw [HZ.out]
        exact bodyPost_ret (v := .tuple #[.int .i64 t, .int .i64 b, .bool true]) (by simp [results, Try.results23, go_sem]) rfl ⟨rfl, hg⟩

end Go.Proofs.Ytkjmlpdbnnmlhaa.loadC
