/- The nearest beam, by the program and the model. -/
import Derived.Test.YtmemclcoegmjjaaRows
import Derived.Test.YtmemclcoegmjjaaSlc
import Derived.Test.YtmemclcoegmjjaaSmall
import Derived.Test.YtmemclcoegmjjaaOpens
import Derived.Test.YtmemclcoegmjjaaBeams
import Derived.Test.YtmemclcoegmjjaaListBeam
import Derived.Test.YtmemclcoegmjjaaPlanNum
import Derived.Test.YtmemclcoegmjjaaBeamsOk
import Derived.WalkKit
import Derived.ProofKit
import Derived.OpenShut
import Derived.ShutString
import Derived.ChangeOld
import Derived.Below
import Derived.Lib.Hide
import Derived.BigQuiet
import Derived.Deep.QuietTactic
import Derived.WalkLawsBesides
import Derived.Outline
import Derived.Deep.QuietTactic
import Derived.BigQuiet
import Derived.Deep.LoopGhost
import Derived.Deep.RegionHeld3
namespace Go.Proofs.Ytmemclcoegmjjaa.nearC
open Go.ChangeShapes Go.WideShapes Go.ChangeAt Go.RowKit
open Go.ChangeMaps (open_string shut_string)
set_option linter.unusedVariables false
open Go Go.RowKit
open Go.Proofs.Ytmemclcoegmjjaa.slc Go.Proofs.Ytmemclcoegmjjaa.small Go.Proofs.Ytmemclcoegmjjaa.opens Go.Proofs.Ytmemclcoegmjjaa.beams Go.Proofs.Ytmemclcoegmjjaa.listBeam Go.Proofs.Ytmemclcoegmjjaa.planNum Go.Proofs.Ytmemclcoegmjjaa.beamsOk

theorem sqr_bd (x : Int) (h1 : -128 ≤ x) (h2 : x ≤ 128) : 0 ≤ x * x ∧ x * x ≤ 16384 := by
  have a : x * x = (x.natAbs : Int) * x.natAbs := by rw [Int.natAbs_mul_self']
  have b : x.natAbs ≤ 128 := by omega
  have c : x.natAbs * x.natAbs ≤ 128 * 128 := Nat.mul_le_mul b b
  have d : ((x.natAbs * x.natAbs : Nat) : Int) = (x.natAbs : Int) * x.natAbs := by simp
  omega
/-- The sum of the squares of the differences. -/
def sd (u v u' v' : Int) : Int := (u - u') * (u - u') + (v - v') * (v - v')
theorem sd_bd {u v u' v' : Int} (h : Bd u v) (h' : Bd u' v') : 0 ≤ sd u v u' v' ∧ sd u v u' v' ≤ 40000 := by
  unfold Bd at h h'
  have h1 := sqr_bd (u - u') (by omega) (by omega)
  have h2 := sqr_bd (v - v') (by omega) (by omega)
  unfold sd
  omega
def sdk (bs : List Bm) (u v : Int) (k : Nat) : Int := sd (bg bs k).1 (bg bs k).2.1 u v
/-- The first one of the nearest of the first k beams. -/
def nst (bs : List Bm) (u v : Int) : Nat → Nat
  | 0 => 0
  | k + 1 => if sdk bs u v k < sdk bs u v (nst bs u v k) then k else nst bs u v k
theorem nst_lt (bs : List Bm) (u v : Int) : ∀ k, nst bs u v k < k ∨ (k = 0 ∧ nst bs u v k = 0)
  | 0 => .inr ⟨rfl, rfl⟩
  | k + 1 => by
    have := nst_lt bs u v k
    unfold nst
    split <;> omega
def nr (bs : List Bm) (u v : Int) : Int × Bool := if ab bs = true ∧ dirB u v = true then (nst bs u v bs.length, true) else (0, false)

set_option maxHeartbeats 800000 in
set_option maxRecDepth 100000 in
theorem square_c (u v u' v' : Int) (w : World) (h : Bd u v) (h' : Bd u' v') :
    Calls Try.prog 111 #[.agg #[.int .i64 u, .int .i64 v], .agg #[.int .i64 u', .int .i64 v']] w fun e w' => e = .returned (.int .i64 (sd u v u' v')) ∧ w.grownBy w' none := by
  obtain ⟨a1, a2, a3, a4⟩ := h
  obtain ⟨b1, b2, b3, b4⟩ := h'
  obtain ⟨h1, h2⟩ := sqr_bd (u - u') (by omega) (by omega)
  obtain ⟨h3, h4⟩ := sqr_bd (v - v') (by omega) (by omega)
  have w1 : IntKind.i64.wrap (u - u') = u - u' := by rw [IntKind.wrap_i64]; omega
  have w2 : IntKind.i64.wrap (v - v') = v - v' := by rw [IntKind.wrap_i64]; omega
  go_enter Try.func111, Try.ntmps111
  go_wp2_with fail
  go_quiet (fail)
  go_wp2_with fail
  go_ret
  exact ⟨rfl, (World.grownBy_alloc _ _ _).trans ((World.grownBy_alloc _ _ _).trans (gb_drewN _ _ _))⟩

theorem nr_no {bs : List Bm} {u v : Int} (h : ab bs = false ∨ dirB u v = false) : nr bs u v = (0, false) := by
  unfold nr
  rw [if_neg]
  rintro ⟨h1, h2⟩
  rcases h with h | h <;> simp_all
theorem nr_yes {bs : List Bm} {u v : Int} (h : ab bs = true) (h2 : dirB u v = true) : nr bs u v = (((nst bs u v bs.length : Nat) : Int), true) := by
  unfold nr
  rw [if_pos ⟨h, h2⟩]

set_option maxHeartbeats 1600000 in
set_option maxRecDepth 100000 in
theorem near_impl (A : Option Addr) (c B : Nat) (bs : List Bm) (u0 v0 : Int) (w : World) (hm : bs.length ≤ 9223372036854775807) (hr : Rd w B A (bs.length * 4) (bcell bs)) (hB : B ≤ w.heap.size) :
    Calls Try.prog 41 #[.slice A bs.length c, .agg #[.int .i64 u0, .int .i64 v0]] w fun e w' => e = .returned (.tuple #[.int .i64 (nr bs u0 v0).1, .bool (nr bs u0 v0).2]) ∧ w.grownBy w' none := by
  have hbox : w.grownBy (w.alloc (.cells #[.int .i64 u0, .int .i64 v0] 27)) none := World.grownBy_alloc _ _ _
  have HA0 := are_impl A c B bs _ hm (hr.kept0 hbox hB) (Nat.le_trans hB hbox.size)
  cases ha : ab bs
  · rw [nr_no (.inl ha)]
    rw [ha] at HA0
    have HA := Lib.hid HA0
    clear HA0 hr ha
    go_enter Try.func41, Try.ntmps41
    go_wp2_with fail
    refine HA.out.mono ?_
    rintro e w1 ⟨rfl, g1⟩
    go_wp2_with fail
    go_ret2
    exact ⟨rfl, hbox.trans g1⟩
  · rw [ha] at HA0
    have HA := Lib.hid HA0
    have HD0 := fun w => dir_impl u0 v0 w
    clear HA0
    cases hd : dirB u0 v0
    · rw [nr_no (.inr hd)]
      rw [hd] at HD0
      have HD := Lib.hid HD0
      clear HD0 hr ha hd
      go_enter Try.func41, Try.ntmps41
      go_wp2_with fail
      refine HA.out.mono ?_
      rintro e w1 ⟨rfl, g1⟩
      obtain ⟨b1, b2⟩ := boxed2 g1
      go_wp2_with fail
      refine (HD.out _).mono ?_
      rintro e w2 ⟨rfl, g2⟩
      go_wp2_with fail
      go_ret2
      exact ⟨rfl, (hbox.trans g1).trans g2⟩
    · rw [nr_yes ha hd]
      rw [hd] at HD0
      have HD := Lib.hid HD0
      have HR := Lib.hid (fun (w' : World) (hg : w.grownBy w' none) => hr.kept0 hg hB)
      have HBD := Lib.hid (fun k hk => ab_bd ha (k := k) hk)
      have HB0 := Lib.hid (dir_bd hd)
      have HBX := Lib.hid hbox
      obtain ⟨l1, l7⟩ := ab_len ha
      clear HD0 hr ha hd hbox
      go_enter Try.func41, Try.ntmps41
      go_wp2_with fail
      refine HA.out.mono ?_
      rintro e w1 ⟨rfl, g1⟩
      obtain ⟨b1, b2⟩ := boxed2 g1
      go_wp2_with fail
      refine (HD.out _).mono ?_
      rintro e w2 ⟨rfl, g2⟩
      have HG2 := Lib.hid (g1.trans g2)
      clear g1 g2 b1 b2
      go_wp2_with fail
      go_loopw [6, 19] (fun m i wr => ∃ k : Nat, k ≤ bs.length ∧ i = .int .i64 k ∧ m = .int .i64 (nst bs u0 v0 k) ∧ (w.alloc (.cells #[.int .i64 u0, .int .i64 v0] 27)).grownBy wr none) (fun _ i _ => bs.length - (intOf i).toNat)
      case atStart => exact ⟨0, Nat.zero_le _, rfl, rfl, HG2.out⟩
      case round =>
        obtain ⟨k, hk, rfl, rfl, hg⟩ := hrel
        by_cases hlt : k < bs.length
        · have hml := nst_lt bs u0 v0 k
          have hmn : nst bs u0 v0 k < bs.length := by omega
          obtain ⟨ad, u, v, d, s, rfl, _, hx, hc0, hc1, hc2, hc3⟩ := Rd.four (HR.out wr (HBX.out.trans hg)) hlt
          obtain ⟨ad', u', v', d', s', e', _, hx', hd0, hd1, _, _⟩ := Rd.four (HR.out wr (HBX.out.trans hg)) hmn
          obtain rfl : ad = ad' := by injection e'
          have hb1 := HBD.out k hlt
          have hb2 := HBD.out _ hmn
          rw [show bg bs k = _ from hx] at hb1
          rw [show bg bs (nst bs u0 v0 k) = _ from hx'] at hb2
          have hb0 := HB0.out
          have HN := Lib.hid (show nst bs u0 v0 (k + 1) = if sd u v u0 v0 < sd u' v' u0 v0 then k else nst bs u0 v0 k by
            show (if sdk bs u0 v0 k < sdk bs u0 v0 (nst bs u0 v0 k) then k else nst bs u0 v0 k) = _
            unfold sdk
            rw [show bg bs k = _ from hx, show bg bs (nst bs u0 v0 k) = _ from hx'])
          obtain ⟨p1, p2⟩ := boxed2 hg
          have hsz : w.heap.size < wr.heap.size := by have := hg.size; simp at this; omega
          have HG := Lib.hid (HBX.out.trans hg)
          have HGW := Lib.hid hg
          generalize nst bs u0 v0 k = m at *
          clear hx hx' e' hg
          have hga : wr.grownBy (wr.alloc (.cells #[.int .i64 u, .int .i64 v, .int .i64 d, .int .i64 s] 69)) none := World.grownBy_alloc _ _ _
          obtain ⟨⟨q0, q1, _, _⟩, _⟩ := cells4 (block1 (World.grownBy.refl (wr.alloc (.cells #[.int .i64 u, .int .i64 v, .int .i64 d, .int .i64 s] 69)) none))
          have q2 := hga.cell p1 (by simp)
          have q3 := hga.cell p2 (by simp)
          have q4 := hga.cell hd0 (by simp)
          have q5 := hga.cell hd1 (by simp)
          have q6 := HGW.out.trans hga
          clear hga
          go_wp2_with fail
          have i1 : (0 : Int) ≤ (m : Int) := by omega
          have i2 : (m : Int) < (bs.length : Int) := by omega
          generalize hwb : wr.alloc (.cells #[.int .i64 u, .int .i64 v, .int .i64 d, .int .i64 s] 69) = wb at *
          generalize hgb : wr.heap.size = gb at *

          have H6 := Lib.hid q6
          clear hwb hgb hd0 hd1 hc0 hc1 hc2 hc3 p1 p2 q6 HGW HG
          have q7 := World.grownBy.refl wb none
          go_region_held3 (fun w' => w'.cell? ⟨gb, 0, none⟩ = some (.int .i64 u) ∧ w'.cell? ⟨gb, 1, none⟩ = some (.int .i64 v) ∧ w'.cell? ⟨w.heap.size, 0, none⟩ = some (.int .i64 u0) ∧ w'.cell? ⟨w.heap.size, 1, none⟩ = some (.int .i64 v0) ∧ w'.cell? (ad.add (m * 4)) = some (.int .i64 u') ∧ w'.cell? ⟨(ad.add (m * 4)).block, (ad.add (m * 4)).off + 1, none⟩ = some (.int .i64 v') ∧ wb.grownBy w' none)
            (first
              | (go_split_ands
                 exact ⟨hg.cell (by assumption) (by simp), hg.cell (by assumption) (by simp), hg.cell (by assumption) (by simp), hg.cell (by assumption) (by simp), hg.cell (by assumption) (by simp), hg.cell (by assumption) (by simp), World.grownBy.trans (by assumption) hg⟩)
              | exact ⟨q0, q1, q2, q3, q4, q5, ⟨q7.os, q7.tape, q7.output, q7.size, q7.block⟩⟩)
            ((go_at_call 111; refine (square_c _ _ _ _ _ (by assumption) (by assumption)).mono ?_; rintro e w' ⟨rfl, hg⟩))
          obtain ⟨_, _, _, _, _, _, hgs⟩ : (w'.cell? ⟨gb, 0, none⟩ = some (.int .i64 u) ∧ w'.cell? ⟨gb, 1, none⟩ = some (.int .i64 v) ∧ w'.cell? ⟨w.heap.size, 0, none⟩ = some (.int .i64 u0) ∧ w'.cell? ⟨w.heap.size, 1, none⟩ = some (.int .i64 v0) ∧ w'.cell? (ad.add (m * 4)) = some (.int .i64 u') ∧ w'.cell? ⟨(ad.add (m * 4)).block, (ad.add (m * 4)).off + 1, none⟩ = some (.int .i64 v') ∧ wb.grownBy w' none) := by assumption
          have HGS := Lib.hid (H6.out.trans hgs)
          clear hgs
          generalize sd u v u0 v0 = S1 at *
          generalize sd u' v' u0 v0 = S2 at *
          by_cases hlts : S1 < S2
          · have HN2 := Lib.hid (HN.out.trans (if_pos hlts))
            go_wp2_with fail
            go_roundw
            case rel => exact ⟨k + 1, by omega, by go_num, by rw [HN2.out], HGS.out⟩
            case measure => simp [intOf]; omega
          · have HN2 := Lib.hid (HN.out.trans (if_neg hlts))
            go_wp2_with fail
            go_roundw
            case rel => exact ⟨k + 1, by omega, by go_num, by rw [HN2.out], HGS.out⟩
            case measure => simp [intOf]; omega
        · obtain rfl : k = bs.length := by omega
          have HG := Lib.hid (HBX.out.trans hg)
          clear hg
          go_wp2_with fail
          go_ret2
          exact ⟨rfl, HG.out⟩

/-- The least sum so far, -1 at the beginning. -/
def lz (bs : List Bm) (u v : Int) (k : Nat) : Int := if k = 0 then -1 else sdk bs u v (nst bs u v k)

set_option maxHeartbeats 1600000 in
set_option maxRecDepth 100000 in
theorem near_spec : True := trivial

end Go.Proofs.Ytmemclcoegmjjaa.nearC
