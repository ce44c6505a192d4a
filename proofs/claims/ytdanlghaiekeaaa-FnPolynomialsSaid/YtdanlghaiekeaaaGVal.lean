/- Values of polynomials and products of polynomials whose numbers are integers, by the program. -/
import Derived.Test.YtdanlghaiekeaaaRows
import Derived.Test.YtdanlghaiekeaaaSlc
import Derived.Test.YtdanlghaiekeaaaSmall
import Derived.Test.YtdanlghaiekeaaaFloats
import Derived.Test.YtdanlghaiekeaaaRound
import Derived.Test.YtdanlghaiekeaaaValues
import Derived.Test.YtdanlghaiekeaaaConv
import Derived.Test.YtdanlghaiekeaaaFWalk
import Derived.Test.YtdanlghaiekeaaaFinWalk
import Derived.Test.YtdanlghaiekeaaaFloat2
import Derived.Test.YtdanlghaiekeaaaFloat3
import Derived.Test.YtdanlghaiekeaaaPhase
import Derived.Test.YtdanlghaiekeaaaSine
import Derived.Test.YtdanlghaiekeaaaPhasor
import Derived.Test.YtdanlghaiekeaaaListC
import Derived.Test.YtdanlghaiekeaaaSteerNum
import Derived.Test.YtdanlghaiekeaaaSineIn
import Derived.Test.YtdanlghaiekeaaaPolyNum
import Derived.Test.YtdanlghaiekeaaaPolyW
import Derived.Test.YtdanlghaiekeaaaPoly1
import Derived.Test.YtdanlghaiekeaaaPoly2
import Derived.Test.YtdanlghaiekeaaaGPoly
import Derived.Test.YtdanlghaiekeaaaGNum
import Derived.WalkKit
import Derived.ProofKit
import Derived.OpenShut
import Derived.ShutString
import Derived.ChangeOld
import Derived.Below
import Derived.Lib.Hide
import Derived.BigQuiet
import Derived.Deep.QuietTactic
import Derived.WalkLawsBesides
import Derived.Outline
import Derived.Deep.LoopGhost
import Derived.Deep.QuietTactic
import Derived.BigQuiet
import Derived.Deep.RegionHeld3
import Derived.Laws.ComplexArith
namespace Go.Proofs.Ytdanlghaiekeaaa.gVal
open Go.ChangeShapes Go.WideShapes Go.ChangeAt Go.RowKit
open Go.ChangeMaps (open_string shut_string)
set_option linter.unusedVariables false
open Go Ieee Go.RowKit
open Go.Proofs.Ytdanlghaiekeaaa.slc Go.Proofs.Ytdanlghaiekeaaa.small Go.Proofs.Ytdanlghaiekeaaa.floats Go.Proofs.Ytdanlghaiekeaaa.round Go.Proofs.Ytdanlghaiekeaaa.values Go.Proofs.Ytdanlghaiekeaaa.conv Go.Proofs.Ytdanlghaiekeaaa.fWalk Go.Proofs.Ytdanlghaiekeaaa.phase Go.Proofs.Ytdanlghaiekeaaa.sine Go.Proofs.Ytdanlghaiekeaaa.phasor Go.Proofs.Ytdanlghaiekeaaa.listC Go.Proofs.Ytdanlghaiekeaaa.sineIn Go.Proofs.Ytdanlghaiekeaaa.polyNum Go.Proofs.Ytdanlghaiekeaaa.polyW Go.Proofs.Ytdanlghaiekeaaa.poly1 Go.Proofs.Ytdanlghaiekeaaa.poly2 Go.Proofs.Ytdanlghaiekeaaa.gPoly Go.Proofs.Ytdanlghaiekeaaa.gNum

theorem cadd {a b c d p q : Nat} (h1 : floatBits .add .f32 a c = some p) (h2 : floatBits .add .f32 b d = some q) (w : World) (t : TypeId) : (binOp .add t (.complex .f32 a b) (.complex .f32 c d)).run Try.prog w = .ok (.complex .f32 p q) w :=
  run_complex_sum w .add (.inl rfl) t .f32 a b c d p q (by simp [cSumBits, h1, h2])
theorem el_count (n : Int) (w : World) (h : 1 ≤ n) (h2 : n ≤ 16) :
    Calls Try.prog 88 #[.int .i64 n] w fun e w' => e = .returned (.bool true) ∧ w = w' := by
  go_enter Try.func88, Try.ntmps88
  go_wp2_with (go_at_call 93; refine (within_yes _ _ _ _ h h2).mono ?_; rintro e w' ⟨rfl, rfl⟩)
  go_ret
  exact ⟨rfl, rfl⟩
theorem is_poly (A : Option Addr) (c n : Nat) (w : World) (h1 : 1 ≤ n) (h2 : n ≤ 16) : Calls Try.prog 87 #[.slice A n c] w fun e w' => e = .returned (.bool true) ∧ w = w' := by
  have k1 : (1 : Int) ≤ n := by omega
  have k2 : (n : Int) ≤ 16 := by omega
  go_enter Try.func87, Try.ntmps87
  go_wp2_with fail
  refine (el_count n w k1 k2).mono ?_
  rintro e w' ⟨rfl, rfl⟩
  go_wp2_with fail
  go_ret
  exact ⟨rfl, rfl⟩
theorem pow5 {n s : Nat} (hn : n ≤ 5) (hs : s ≤ n) : 3125 * 5 ^ s ≤ 9765625 := by
  have : 5 ^ s ≤ 5 ^ 5 := Nat.pow_le_pow_right (by omega) (by omega)
  omega

set_option maxHeartbeats 2000000 in
set_option maxRecDepth 100000 in
theorem val_impl (A : Option Addr) (c B : Nat) (l : List (Nat × Nat)) (f : Nat → G) (n : Nat) (z : Nat × Nat) (g : G) (w : World) (hl : l.length = n + 1) (hp : Pg l f) (hz : Gi z g) (hf : ∀ k, gN (f k) ≤ 3125) (hg : gN g ≤ 4) (hn : n ≤ 5) (hB : B ≤ w.heap.size) (hr : Rd w B A (n + 1) (ccell l)) :
    Calls Try.prog 19 #[.slice A (n + 1) c, .complex .f32 z.1 z.2] w fun e w' => ∃ v : Nat × Nat, e = .returned (.tuple #[.complex .f32 v.1 v.2, .bool true]) ∧ Gi v (ghv f g n n) ∧ w.grownBy w' none := by
  obtain ⟨ad, rfl, hab, hlast⟩ := hr.at_ (show n < n + 1 by omega)
  unfold ccell at hlast
  have hstep : ∀ (s : Nat) (v : Nat × Nat), s < n → Gi v (ghv f g n s) → MulOk v z ∧ floatBits .add .f32 (mulw v z).1 (l.getD (n - s - 1) (0, 0)).1 = some (addw (mulw v z) (l.getD (n - s - 1) (0, 0))).1 ∧ floatBits .add .f32 (mulw v z).2 (l.getD (n - s - 1) (0, 0)).2 = some (addw (mulw v z) (l.getD (n - s - 1) (0, 0))).2 ∧ Gi (addw (mulw v z) (l.getD (n - s - 1) (0, 0))) (ghv f g n (s + 1)) := by
    intro s v hs hv
    have b1 := ghv_N hf hg n s
    have b2 := ghv_N hf hg n (s + 1)
    have p1 : 5 ^ (s + 1) ≤ 5 ^ 5 := Nat.pow_le_pow_right (by omega) (by omega)
    have p2 : 5 ^ s ≤ 5 ^ 4 := Nat.pow_le_pow_right (by omega) (by omega)
    rw [show 1 + 4 = 5 from rfl] at b1 b2
    have b3 : gN (ghv f g n s) * gN g ≤ 3125 * 5 ^ s * 4 := Nat.mul_le_mul b1 hg
    obtain ⟨m1, m2⟩ := mul_g hv hz (by omega) (by omega) (by omega)
    obtain ⟨a1, a2, a3⟩ := add_g m2 (hp (n - s - 1)) (Nat.lt_of_le_of_lt b2 (by omega))
    exact ⟨m1, a1, a2, a3⟩
  have HST := Lib.hid hstep
  have hl0 := hp n
  have HL0 := Lib.hid hl0
  have HR := Lib.hid hr
  clear hstep hl0 hr hp
  generalize l.getD n (0, 0) = u0 at *
  have k0 : (0 : Int) ≤ (n : Int) + 1 - 1 := by omega
  have k1 : (n : Int) + 1 - 1 < (n : Int) + 1 := by omega
  have k2 : ((n : Int) + 1 - 1).toNat = n := by omega
  have e1 : ((n + 1 : Nat) : Int) = (n : Int) + 1 := by omega
  go_enter Try.func19, Try.ntmps19
  go_wp2_with fail
  refine (is_poly _ _ _ _ (by omega) (by omega)).mono ?_
  rintro e w' ⟨rfl, rfl⟩
  go_wp2_with fail
  go_loopw [7, 8] (fun v i wr => ∃ (s : Nat) (u : Nat × Nat), s ≤ n ∧ i = .int .i64 ((n : Int) - 1 - s) ∧ v = .complex .f32 u.1 u.2 ∧ Gi u (ghv f g n s) ∧ w.grownBy wr none) (fun _ i _ => (intOf i + 1).toNat)
  case atStart => exact ⟨0, u0, Nat.zero_le _, congrArg (Value.int .i64) (by omega), rfl, HL0.out, World.grownBy.refl _ _⟩
  case round =>
    obtain ⟨s, u, hs, rfl, rfl, hu, hgr⟩ := hrel
    by_cases hlt : s < n
    · obtain ⟨m1, a1, a2, a3⟩ := HST.out s u hlt hu
      obtain ⟨ad', e, _, hc⟩ := (HR.out.kept0 hgr hB).at_ (show n - s - 1 < n + 1 by omega)
      injection e with e; subst e
      unfold ccell at hc
      have hcs := cadd a1 a2
      have hmq := fun w => (mul_impl m1 w).mono fun e w' h => (⟨h.1, h.2.symm⟩ : _ ∧ w' = w)
      have MQ := Lib.hid hmq
      have HA3 := Lib.hid a3
      clear hmq a1 a2 a3 m1
      generalize addw (mulw u z) (l.getD (n - s - 1) (0, 0)) = o at *
      generalize l.getD (n - s - 1) (0, 0) = q at *
      generalize mulw u z = v at *
      have j0 : (0 : Int) ≤ (n : Int) - 1 - s := by omega
      have j1 : (n : Int) - 1 - s < (n : Int) + 1 := by omega
      have j2 : ((n : Int) - 1 - s).toNat = n - s - 1 := by omega
      go_wp2_with fail
      go_quiet ((exact Calls.quiet_of_same (MQ.out _)))
      have hgr2 := hgr.trans (gb_drewN wr nq none)
      clear hc hgr hcs
      generalize wr.drewN nq = wd at *
      go_wp2_with fail
      go_roundw
      case rel => exact ⟨s + 1, o, by omega, congrArg (Value.int .i64) (by omega), rfl, HA3.out, hgr2⟩
      case measure => simp [intOf]; omega
    · obtain rfl : s = n := by omega
      go_wp2_with fail
      go_ret2
      exact ⟨u, rfl, hu, hgr⟩

theorem lst_set (l : List (Nat × Nat)) (k : Nat) (v : Nat × Nat) (n : Nat) (hl : l.length = n) (hk : k < n) : (lst (ccell l) n).set k (.complex .f32 v.1 v.2) = lst (ccell (l.set k v)) n := by
  apply List.ext_getElem?
  intro t
  rw [List.getElem?_set]
  by_cases ht : k = t
  · subst ht
    simp [lst, ccell, List.getD, hk, hl]
  · rw [if_neg ht]
    by_cases hn : t < n
    · rw [lst_get _ _ _ hn, lst_get _ _ _ hn]
      simp [ccell, List.getD, ht]
    · simp [lst, hn]
theorem getD_set (l : List (Nat × Nat)) (k t : Nat) (v : Nat × Nat) (hk : k < l.length) : (l.set k v).getD t (0, 0) = if t = k then v else l.getD t (0, 0) := by
  by_cases h : t = k
  · subst h
    simp [List.getD, hk]
  · rw [if_neg h]
    simp [List.getD, show ¬ k = t by omega]
theorem zeros_lst (n : Nat) : lst (fun _ => .complex .f32 0 0) n = lst (ccell (List.replicate n ((0 : Nat), (0 : Nat)))) n := lst_congr fun j hj => by
  unfold ccell; simp [List.getD, hj]
theorem zeros_pg (a b : Nat → G) (n : Nat) : Pg (List.replicate n ((0 : Nat), (0 : Nat))) (gcv a b 0) := fun k => by
  have e : (List.replicate n ((0 : Nat), (0 : Nat))).getD k (0, 0) = (0, 0) := by
    by_cases h : k < n <;> simp [List.getD, h]
  rw [e]
  exact Gi.zero

attribute [local go_sem] run_store_complex
set_option maxHeartbeats 4000000 in
set_option maxRecDepth 100000 in
theorem mulp_impl (A A' : Option Addr) (c d B : Nat) (x y : List (Nat × Nat)) (f g : Nat → G) (n m a b : Nat) (w : World) (hx : x.length = n + 1) (hy : y.length = m + 1) (px : Pg x f) (py : Pg y g) (hf : ∀ k, gN (f k) ≤ a) (hg : ∀ k, gN (g k) ≤ b) (hab : a * b ≤ 3125) (ha : a ≤ 3125) (hb : b ≤ 3125) (hn : n + m ≤ 5) (hB : B ≤ w.heap.size) (hr : Rd w B A (n + 1) (ccell x)) (hs : Rd w B A' (m + 1) (ccell y)) :
    Calls Try.prog 18 #[.slice A (n + 1) c, .slice A' (m + 1) d] w fun e w' => ∃ (l : List (Nat × Nat)) (A2 : Option Addr) (c2 : Nat), e = .returned (.tuple #[.slice A2 (n + m + 1) c2, .bool true]) ∧ l.length = n + m + 1 ∧ Pg l (gcv f g (n + 1)) ∧ w'.ownsRow w.heap.size 30 1 (.slice A2 (n + m + 1) c2) (n + m + 1) (lst (ccell l) (n + m + 1)) ∧ w.grownBy w' none := by
  obtain ⟨i0, hi0, hz0, hz1, hz2⟩ := info_parts infoC
  have hmul : ∀ i j, i ≤ n → MulOk (y.getD j (0, 0)) (x.getD i (0, 0)) ∧ Gi (mulw (y.getD j (0, 0)) (x.getD i (0, 0))) (gm (g j) (f i)) := by
    intro i j hi
    have h1 : gN (g j) * gN (f i) ≤ b * a := Nat.mul_le_mul (hg j) (hf i)
    rw [Nat.mul_comm b a] at h1
    have := hg j
    have := hf i
    exact mul_g (py j) (px i) (by omega) (by omega) (by omega)
  have hadd : ∀ (i j : Nat) (u : Nat × Nat), i ≤ n → Gi u (stp f g i j (i + j)) → floatBits .add .f32 u.1 (mulw (y.getD j (0, 0)) (x.getD i (0, 0))).1 = some (addw u (mulw (y.getD j (0, 0)) (x.getD i (0, 0)))).1 ∧ floatBits .add .f32 u.2 (mulw (y.getD j (0, 0)) (x.getD i (0, 0))).2 = some (addw u (mulw (y.getD j (0, 0)) (x.getD i (0, 0)))).2 ∧ Gi (addw u (mulw (y.getD j (0, 0)) (x.getD i (0, 0)))) (stp f g i (j + 1) (i + j)) := by
    intro i j u hi hu
    rw [stp_at]
    have h1 : gN (gm (g j) (f i)) ≤ b * a := Nat.le_trans (gN_gm _ _) (Nat.mul_le_mul (hg j) (hf i))
    rw [Nat.mul_comm b a] at h1
    have h2 := stp_N hf hg i j (i + j)
    have h3 : (i + 1) * (a * b) ≤ 6 * 3125 := Nat.mul_le_mul (by omega) hab
    have h4 := gN_ga (stp f g i j (i + j)) (gm (g j) (f i))
    exact add_g hu (hmul i j hi).2 (by omega)
  have HMU := Lib.hid hmul
  have HAD := Lib.hid hadd
  have HGO := Lib.hid (fun k (hk : m + 1 ≤ k) => py.out k (by omega))
  have HPR := Lib.hid (fun (i : Nat) (hi : i ≤ n) (w' : World) (hw : w.grownBy w' none) => prods_impl A' d B y (x.getD i (0, 0)) w' (by omega) (fun j _ => (hmul i j hi).1) (by rw [hy]; exact hs.kept0 hw hB) (Nat.le_trans hB hw.size))
  rw [hy] at HPR
  have HS := Lib.hid hs
  clear hmul hadd px py hf hg hab ha hb hs
  have e1 : ((n + 1 : Nat) : Int) = (n : Int) + 1 := by omega
  have e2 : ((m + 1 : Nat) : Int) = (m : Int) + 1 := by omega
  have e3 : ((n : Int) + 1 + ((m : Int) + 1) - 1).toNat = n + m + 1 := by omega
  go_enter Try.func18, Try.ntmps18
  go_wp2_with fail
  refine (is_poly _ _ _ _ (by omega) (by omega)).mono ?_
  rintro e w' ⟨rfl, rfl⟩
  go_wp2_with fail
  refine (is_poly _ _ _ _ (by omega) (by omega)).mono ?_
  rintro e w' ⟨rfl, rfl⟩
  go_wp2_with fail
  refine (el_count _ _ (by omega) (by omega)).mono ?_
  rintro e w' ⟨rfl, rfl⟩
  go_wp2_with (at_make; refine wpList_make_full _ rfl _ _ _ rfl w.heap.size 30 i0 (.complex .f32 0 0) 1 Try.underlying24 hi0 hz0 hz1 _ _ _ _ (n + m + 1) rfl rfl (by omega) (by omega) (by rw [hz2]; omega) (by unfold maxLen; omega) (Nat.le_refl _) ?_; intro w3 hown3 hg3)
  have O3 : w3.ownsRow w.heap.size 30 1 (.slice (some ⟨w.heap.size, 0, none⟩) (n + m + 1) (n + m + 1)) (n + m + 1) (lst (ccell (List.replicate (n + m + 1) ((0 : Nat), (0 : Nat)))) (n + m + 1)) := by
    rw [← zeros_lst, ← replicate_lst]
    rw [Nat.mul_one] at hown3
    exact (toList_madeCells_one (.complex .f32 0 0) (n + m + 1)) ▸ hown3
  clear hown3
  have hbn : (y.map fun v => mulw v (x.getD 0 (0, 0))).length = m + 1 := by simp [hy]
  go_wp2_with fail
  go_loopw [38] (fun i wr => ∃ (k : Nat) (l : List (Nat × Nat)), k ≤ n + 1 ∧ i = .int .i64 k ∧ l.length = n + m + 1 ∧ Pg l (gcv f g k) ∧ wr.ownsRow w.heap.size 30 1 (.slice (some ⟨w.heap.size, 0, none⟩) (n + m + 1) (n + m + 1)) (n + m + 1) (lst (ccell l) (n + m + 1)) ∧ w.grownBy wr none) (fun i _ => n + 1 - (intOf i).toNat)
  case atStart => exact ⟨0, _, Nat.zero_le _, rfl, by simp, zeros_pg f g _, O3, hg3⟩
  case round =>
    obtain ⟨k, l, hk, rfl, hll, hpl, hown, hgr⟩ := hrel
    clear O3
    by_cases hlt : k < n + 1
    · obtain ⟨ad, rfl, _, hc⟩ := (hr.kept0 hgr hB).at_ hlt
      unfold ccell at hc
      have hpr := HPR.out k (by omega) wr hgr
      have hmu := HMU.out k
      have had := HAD.out k
      have HM2 := Lib.hid hmu
      have HA2 := Lib.hid had
      have HP2 := Lib.hid hpr
      clear hmu had hpr
      generalize x.getD k (0, 0) = u at *
      have k0 : (0 : Int) ≤ k := by omega
      have k1 : (k : Int) < (n : Int) + 1 := by omega
      have HPL := Lib.hid (show Pg l (stp f g k 0) from fun t => by rw [stp_zero]; exact hpl t)
      clear hpl
      go_wp2_with fail
      refine HP2.out.mono ?_
      rintro e w5 ⟨A5, c5, rfl, ho5, hg5⟩
      have R5 := Rd.of_lst ho5 (Nat.mul_one _).symm
      have b5 := own_base ho5
      have O5 := own_kept0 hown hg5
      have G5 := hgr.trans hg5
      have hs5 := hgr.size
      have hs6 : w.heap.size < wr.heap.size := (own_base hown _ rfl).2
      clear ho5 hown HP2
      go_wp2_with fail
      go_loopw [47] (fun i wq => ∃ (j : Nat) (l : List (Nat × Nat)), j ≤ m + 1 ∧ i = .int .i64 j ∧ l.length = n + m + 1 ∧ Pg l (stp f g k j) ∧ wq.ownsRow w.heap.size 30 1 (.slice (some ⟨w.heap.size, 0, none⟩) (n + m + 1) (n + m + 1)) (n + m + 1) (lst (ccell l) (n + m + 1)) ∧ w.grownBy wq none ∧ Rd wq w5.heap.size A5 (m + 1) (ccell (y.map fun v => mulw v u)) ∧ w5.heap.size ≤ wq.heap.size) (fun i _ => m + 1 - (intOf i).toNat)
      case atStart => exact ⟨0, l, Nat.zero_le _, rfl, hll, HPL.out, O5, G5, R5, Nat.le_refl _⟩
      case round =>
        obtain ⟨j, l, hj, rfl, hll, hpl, hown, hgr, hR, hsz⟩ := hrel
        clear O5 G5 R5 HPL
        by_cases hjt : j < m + 1
        · obtain ⟨ad5, rfl, hb5, hc5⟩ := hR.at_ hjt
          have hcv : ccell (y.map fun v => mulw v u) j = .complex .f32 (mulw (y.getD j (0, 0)) u).1 (mulw (y.getD j (0, 0)) u).2 := by
            unfold ccell
            rw [map_at (fun v => mulw v u) y j (by omega)]
          rw [hcv] at hc5
          obtain ⟨a1, a2, a3⟩ := HA2.out j (l.getD (k + j) (0, 0)) (by omega) (hpl (k + j))
          have hnew : Pg (l.set (k + j) (addw (l.getD (k + j) (0, 0)) (mulw (y.getD j (0, 0)) u))) (stp f g k (j + 1)) := fun t => by
            rw [getD_set _ _ _ _ (by omega)]
            split
            · rename_i e; subst e; exact a3
            · rename_i e; rw [stp_off _ _ _ _ _ e]; exact hpl t
          have hcs := cadd a1 a2
          have hset := lst_set l (k + j) (addw (l.getD (k + j) (0, 0)) (mulw (y.getD j (0, 0)) u)) (n + m + 1) hll (by omega)
          have hcell := hown.cellAt (k + j) (by omega)
          rw [lst_get _ _ _ (by omega)] at hcell
          unfold ccell at hcell
          have HN := Lib.hid hnew
          have HSE := Lib.hid hset
          have hlen2 : (l.set (k + j) (addw (l.getD (k + j) (0, 0)) (mulw (y.getD j (0, 0)) u))).length = n + m + 1 := by simpa using hll
          have HL2 := Lib.hid hlen2
          clear a1 a2 a3 hnew hset hpl hcv hlen2
          generalize addw (l.getD (k + j) (0, 0)) (mulw (y.getD j (0, 0)) u) = o at *
          generalize l.getD (k + j) (0, 0) = q at *
          generalize mulw (y.getD j (0, 0)) u = v at *
          have hf := hown.frozenAt (k + j)
          obtain ⟨hs1, hs2⟩ := hown.stored (k + j) (.complex .f32 o.1 o.2)
          rw [HSE.out] at hs1
          have hR' := hR.kept hs2 hsz (by intro b hb _ e; have h5 := (b5 b hb).1; injection e with e; omega)
          have hg' := gb_new hgr hs2 (by intro g e; injection e with e; omega)
          have hsz' := Nat.le_trans hsz hs2.size
          have j0 : (0 : Int) ≤ j := by omega
          have j1 : (j : Int) < (m : Int) + 1 := by omega
          have j2 : (0 : Int) ≤ (k : Int) + j := by omega
          have j3 : (k : Int) + j < (n : Int) + m + 1 := by omega
          have j4 : ((k : Int) + j).toNat = k + j := by omega
          have HS := Lib.hid hs1
          have HR' := Lib.hid hR'
          have HG' := Lib.hid hg'
          have HZ' := Lib.hid hsz'
          clear hs1 hs2 hR' hg' hown hR hgr hsz hsz'
          go_wp2_with fail
          go_roundw
          case rel => exact ⟨j + 1, _, by omega, by go_num, HL2.out, HN.out, HS.out, HG'.out, HR'.out, HZ'.out⟩
          case measure => simp [intOf]; omega
        · obtain rfl : j = m + 1 := by omega
          go_wp2_with fail
          go_roundw
          case rel => exact ⟨k + 1, l, by omega, by go_num, hll, fun t => by rw [← stp_all f g k (m + 1) t HGO.out]; exact hpl t, hown, hgr⟩
          case measure => simp [intOf]; omega
    · obtain rfl : k = n + 1 := by omega
      go_wp2_with fail
      go_ret2
      exact ⟨l, _, _, rfl, hll, hpl, hown, hgr⟩

end Go.Proofs.Ytdanlghaiekeaaa.gVal
