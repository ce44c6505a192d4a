/- The ticks of an order, by the model. -/
import Derived.Test.YtmemclcoegmjjaaRows
import Derived.Test.YtmemclcoegmjjaaSlc
import Derived.Test.YtmemclcoegmjjaaSmall
import Derived.Test.YtmemclcoegmjjaaOpens
import Derived.Test.YtmemclcoegmjjaaListI
import Derived.Test.YtmemclcoegmjjaaPlanNum
import Derived.Test.YtmemclcoegmjjaaSwT
import Derived.Test.YtmemclcoegmjjaaBeamsOk
import Derived.Test.YtmemclcoegmjjaaListDir
import Derived.Test.YtmemclcoegmjjaaDirsOk
import Derived.Test.YtmemclcoegmjjaaSortO
import Derived.Test.YtmemclcoegmjjaaSeqV
import Derived.Test.YtmemclcoegmjjaaOrdC
import Derived.Test.YtmemclcoegmjjaaTourC
import Derived.WalkKit
import Derived.ProofKit
import Derived.OpenShut
import Derived.ShutString
import Derived.ChangeOld
import Derived.Below
import Derived.Lib.Hide
import Derived.BigQuiet
import Derived.Deep.QuietTactic
import Derived.WalkLawsBesides
import Derived.Outline
import Derived.Deep.QuietTactic
import Derived.BigQuiet
import Derived.Deep.LoopGhost
import Derived.Deep.RegionHeld3
import Derived.Deep.RegionWith
import Derived.Deep.OwnRows
namespace Go.Proofs.Ytmemclcoegmjjaa.tourS
open Go.ChangeShapes Go.WideShapes Go.ChangeAt Go.RowKit
open Go.ChangeMaps (open_string shut_string)
set_option linter.unusedVariables false
open Go Go.RowKit
open Go.Proofs.Ytmemclcoegmjjaa.slc Go.Proofs.Ytmemclcoegmjjaa.small Go.Proofs.Ytmemclcoegmjjaa.opens Go.Proofs.Ytmemclcoegmjjaa.listI Go.Proofs.Ytmemclcoegmjjaa.planNum Go.Proofs.Ytmemclcoegmjjaa.swT Go.Proofs.Ytmemclcoegmjjaa.beamsOk Go.Proofs.Ytmemclcoegmjjaa.dirsOk Go.Proofs.Ytmemclcoegmjjaa.ordC Go.Proofs.Ytmemclcoegmjjaa.tourC

/-! ## has -/
def NoX (ls : List Int) (x : Int) (k : Nat) : Prop := ∀ i (h : i < ls.length), i < k → ls[i] ≠ x
theorem NoX.all {ls : List Int} {x : Int} (h : NoX ls x ls.length) : decide (x ∈ ls) = false := decide_eq_false fun hx => by
  obtain ⟨i, hi, e⟩ := List.mem_iff_getElem.1 hx
  exact h i hi hi e
set_option maxHeartbeats 400000 in
theorem has_c (A : Option Addr) (c B : Nat) (ls : List Int) (x : Int) (w : World) (hm : ls.length ≤ 9223372036854775807) (hr : Rd w B A ls.length (fun j => (ints ls).getD j undef)) :
    Calls Try.prog 164 #[.slice A ls.length c, .int .i64 x] w fun e w' => e = .returned (.bool (decide (x ∈ ls))) ∧ w = w' := by
  go_enter Try.func164, Try.ntmps164
  go_wp2
  go_loop [5] (fun i => ∃ k : Nat, k ≤ ls.length ∧ i = .int .i64 k ∧ NoX ls x k) (fun i => ls.length - (intOf i).toNat)
  case atStart => exact ⟨0, Nat.zero_le _, rfl, fun i _ h => absurd h (by omega)⟩
  case round =>
    obtain ⟨k, hk, rfl, hpre⟩ := hrel
    by_cases hlt : k < ls.length
    · obtain ⟨ad, rfl, _, hc⟩ := hr.at_ hlt
      rw [ints_getD ls k hlt] at hc
      have k0 : (0 : Int) ≤ (k : Int) := by omega
      have k1 : (k : Int) < (ls.length : Int) := by omega
      by_cases he : ls[k] = x
      · have HV := Lib.hid (show decide (x ∈ ls) = true from decide_eq_true (he ▸ List.getElem_mem hlt))
        go_wp2
        go_ret
        exact ⟨ret_bool HV.out.symm, rfl⟩
      · have hn : NoX ls x (k + 1) := fun i hi h => by
          by_cases e : i = k
          · subst e; exact he
          · exact hpre i hi (by omega)
        have HN := Lib.hid hn
        clear hn hpre
        go_wp2
        go_round
        case rel => exact ⟨k + 1, by omega, by go_num, HN.out⟩
        case measure => simp [intOf]; omega
    · obtain rfl : k = ls.length := by omega
      have HV := Lib.hid hpre.all
      clear hpre
      go_wp2
      go_ret
      exact ⟨ret_bool HV.out.symm, rfl⟩

/-! ## l09Ticks -/
/-- The ticks of the first k turns, the last one back to the beginning. -/
def tq (ds : List (Int × Int)) (xs : List Int) (k : Nat) : Int := if k < xs.length then ssm ds xs k else pim ds xs xs.length
theorem tq_next (ds : List (Int × Int)) (xs : List Int) {k : Nat} (h : k + 1 < xs.length) : tq ds xs (k + 1) = tq ds xs k + tk ds (ot xs k) (ot xs (k + 1)) := by
  unfold tq
  rw [if_pos h, if_pos (by omega)]
  rfl
theorem tq_last (ds : List (Int × Int)) (xs : List Int) {k : Nat} (h : k + 1 = xs.length) : tq ds xs (k + 1) = tq ds xs k + tk ds (ot xs k) (ot xs 0) := by
  unfold tq
  rw [if_neg (by omega), if_pos (by omega), ← h]
  show tk ds (ot xs (xs.length - 1)) (ot xs 0) + ssm ds xs k = _
  rw [show xs.length - 1 = k by omega]
  omega
set_option maxHeartbeats 1600000 in
set_option maxRecDepth 100000 in
theorem ticks_c (A : Option Addr) (c : Nat) (A' : Option Addr) (c' B : Nat) (ds : List (Int × Int)) (xs : List Int) (w : World) (hk : OOk ds xs) (hr : Rd w B A (ds.length * 2) (pcell ds)) (hr' : Rd w B A' xs.length (fun j => (ints xs).getD j undef)) (hB : B ≤ w.heap.size) :
    Calls Try.prog 163 #[.slice A ds.length c, .slice A' xs.length c'] w fun e w' => e = .returned (.int .i64 (pim ds xs xs.length)) ∧ w.grownBy w' none := by
  have HK := Lib.hid hk
  have HR := Lib.hid (fun (w' : World) (hg : w.grownBy w' none) => hr.kept0 hg hB)
  have HR' := Lib.hid (fun (w' : World) (hg : w.grownBy w' none) => hr'.kept0 hg hB)
  have HLE := Lib.hid hk.len
  have l7 := hk.le
  have l1 := hk.pos
  clear hk hr hr'
  go_enter Try.func163, Try.ntmps163
  go_wp2_with fail
  go_loopw [5, 9] (fun p i wr => ∃ k : Nat, k ≤ xs.length ∧ i = .int .i64 k ∧ p = .int .i64 (tq ds xs k) ∧ w.grownBy wr none) (fun _ i _ => xs.length - (intOf i).toNat)
  case atStart => exact ⟨0, Nat.zero_le _, rfl, by unfold tq; rw [if_pos (by have := HLE.out; omega)]; rfl, World.grownBy.refl _ _⟩
  case round =>
    obtain ⟨k, hkn, rfl, rfl, hg⟩ := hrel
    by_cases hlt : k < xs.length
    · obtain ⟨nx, hnl, hr1, hr2, hs⟩ : ∃ nx : Nat, nx < xs.length ∧ Int.tmod ((k : Int) + 1) (xs.length : Int) = (nx : Int) ∧ ((k : Int) + 1) % (xs.length : Int) = (nx : Int) ∧ tq ds xs (k + 1) = tq ds xs k + tk ds (ot xs k) (ot xs nx) := by
        by_cases h : k + 1 < xs.length
        · refine ⟨k + 1, h, ?_, ?_, tq_next ds xs h⟩
          · rw [Int.tmod_eq_emod_of_nonneg (by omega), Int.emod_eq_of_lt (by omega) (by omega)]; rfl
          · rw [Int.emod_eq_of_lt (by omega) (by omega)]; rfl
        · have e : (k : Int) + 1 = (xs.length : Int) := by omega
          refine ⟨0, by omega, ?_, ?_, tq_last ds xs (by omega)⟩
          · rw [e, Int.tmod_self]; rfl
          · rw [e, Int.emod_self]; rfl
      obtain ⟨ad, rfl, _, hxc⟩ := (HR'.out wr hg).at_ hlt
      obtain ⟨ad1, e1, _, hyc⟩ := (HR'.out wr hg).at_ hnl
      obtain rfl : ad = ad1 := by injection e1
      rw [ints_getD xs k hlt, (HK.out.at_ k hlt).1] at hxc
      rw [ints_getD xs nx hnl, (HK.out.at_ nx hnl).1] at hyc
      have hi := (HK.out.at_ k hlt).2
      have hj := (HK.out.at_ nx hnl).2
      have hb : 0 ≤ tq ds xs k ∧ tq ds xs k ≤ 8 * k := by unfold tq; rw [if_pos hlt]; exact HK.out.ssm_bd k hlt
      obtain ⟨b1, b2⟩ := hb
      obtain ⟨b3, b4⟩ := HK.out.tk_bd hi hj
      have HSUC := Lib.hid hs
      clear hs
      generalize ot xs k = i at *
      generalize ot xs nx = j at *
      obtain ⟨ad2, u, v, rfl, _, hx, f0, f1⟩ := Rd.dir (HR.out wr hg) hi
      obtain ⟨ad3, u', v', e3, _, hx', g0, g1⟩ := Rd.dir (HR.out wr hg) hj
      obtain rfl : ad2 = ad3 := by injection e3
      have hb1 := HK.out.bd i hi
      have hb2 := HK.out.bd j hj
      have ht : tk ds i j = sw u v u' v' := by unfold tk; rw [hx, hx']
      rw [hx] at hb1
      rw [hx'] at hb2
      rw [ht] at b3 b4
      have HT := Lib.hid ht
      have HSW := Lib.hid (fun w => sw_spec u v u' v' w hb1 hb2)
      generalize sw u v u' v' = T at *
      generalize tq ds xs k = P at *
      have i0 : (0 : Int) ≤ (i : Int) := by omega
      have i1 : (i : Int) < (ds.length : Int) := by omega
      have j0 : (0 : Int) ≤ (j : Int) := by omega
      have j1 : (j : Int) < (ds.length : Int) := by omega
      have k0 : (0 : Int) ≤ (k : Int) := by omega
      have k1 : (k : Int) < (xs.length : Int) := by omega
      have x0 : (0 : Int) ≤ (nx : Int) := by omega
      have x1 : (nx : Int) < (xs.length : Int) := by omega
      have hk7 : k ≤ 7 := by have := HLE.out; omega
      have l0 : ¬ xs = [] := by rintro rfl; simp at hlt
      have hw1 : IntKind.i64.wrap ((k : Int) + 1) = (k : Int) + 1 := by rw [IntKind.wrap_i64]; omega
      have hw2 : IntKind.i64.wrap (nx : Int) = (nx : Int) := by rw [IntKind.wrap_i64]; have := HLE.out; omega
      have q5 : IntKind.i64.wrap (P + T) = P + T := by rw [IntKind.wrap_i64]; omega
      have gA := hg
      clear hg hx hx' ht e1 e3 hb1 hb2
      go_wp2_with fail
      go_region_held3 (fun w' => w'.cell? (ad.add k) = some (.int .i64 (i : Nat)) ∧ w'.cell? (ad.add nx) = some (.int .i64 (j : Nat)) ∧ w'.cell? (ad2.add (i * 2)) = some (.int .i64 u) ∧ w'.cell? ⟨(ad2.add (i * 2)).block, (ad2.add (i * 2)).off + 1, none⟩ = some (.int .i64 v) ∧ w'.cell? (ad2.add (j * 2)) = some (.int .i64 u') ∧ w'.cell? ⟨(ad2.add (j * 2)).block, (ad2.add (j * 2)).off + 1, none⟩ = some (.int .i64 v') ∧ w.grownBy w' none)
        (first
          | (go_split_ands
             exact ⟨hg.cell (by assumption) (by simp), hg.cell (by assumption) (by simp), hg.cell (by assumption) (by simp), hg.cell (by assumption) (by simp), hg.cell (by assumption) (by simp), hg.cell (by assumption) (by simp), World.grownBy.trans (by assumption) hg⟩)
          | exact ⟨hxc, hyc, f0, f1, g0, g1, ⟨gA.os, gA.tape, gA.output, gA.size, gA.block⟩⟩)
        ((go_at_call 161; refine (HSW.out _).mono ?_; rintro e w6 ⟨rfl, hg⟩; have gT : w.grownBy w6 none := (by refine World.grownBy.trans ?_ hg; exact ⟨gA.os, gA.tape, gA.output, gA.size, gA.block⟩)))
      have HGT := Lib.hid gT
      go_wp2_with fail
      go_roundw
      case rel => exact ⟨k + 1, by omega, by go_num, by rw [HSUC.out, HT.out], HGT.out⟩
      case measure => simp [intOf]; omega
    · obtain rfl : k = xs.length := by omega
      have HG := Lib.hid hg
      have HQ := Lib.hid (show tq ds xs xs.length = pim ds xs xs.length by unfold tq; rw [if_neg (by omega)])
      clear hg
      go_wp2_with fail
      go_ret
      exact ⟨ret_int HQ.out, HG.out⟩

end Go.Proofs.Ytmemclcoegmjjaa.tourS
