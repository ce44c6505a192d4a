/- The ticks of an order, by the program. -/
import Derived.Test.YtmemclcoegmjjaaRows
import Derived.Test.YtmemclcoegmjjaaSlc
import Derived.Test.YtmemclcoegmjjaaSmall
import Derived.Test.YtmemclcoegmjjaaOpens
import Derived.Test.YtmemclcoegmjjaaListI
import Derived.Test.YtmemclcoegmjjaaPlanNum
import Derived.Test.YtmemclcoegmjjaaSwT
import Derived.Test.YtmemclcoegmjjaaBeamsOk
import Derived.Test.YtmemclcoegmjjaaListDir
import Derived.Test.YtmemclcoegmjjaaDirsOk
import Derived.Test.YtmemclcoegmjjaaSortO
import Derived.Test.YtmemclcoegmjjaaSeqV
import Derived.Test.YtmemclcoegmjjaaOrdC
import Derived.WalkKit
import Derived.ProofKit
import Derived.OpenShut
import Derived.ShutString
import Derived.ChangeOld
import Derived.Below
import Derived.Lib.Hide
import Derived.BigQuiet
import Derived.Deep.QuietTactic
import Derived.WalkLawsBesides
import Derived.Outline
import Derived.Deep.QuietTactic
import Derived.BigQuiet
import Derived.Deep.LoopGhost
import Derived.Deep.RegionHeld3
import Derived.Deep.RegionWith
namespace Go.Proofs.Ytmemclcoegmjjaa.tourC
open Go.ChangeShapes Go.WideShapes Go.ChangeAt Go.RowKit
open Go.ChangeMaps (open_string shut_string)
set_option linter.unusedVariables false
open Go Go.RowKit
open Go.Proofs.Ytmemclcoegmjjaa.slc Go.Proofs.Ytmemclcoegmjjaa.small Go.Proofs.Ytmemclcoegmjjaa.opens Go.Proofs.Ytmemclcoegmjjaa.listI Go.Proofs.Ytmemclcoegmjjaa.planNum Go.Proofs.Ytmemclcoegmjjaa.swT Go.Proofs.Ytmemclcoegmjjaa.beamsOk Go.Proofs.Ytmemclcoegmjjaa.dirsOk Go.Proofs.Ytmemclcoegmjjaa.ordC

def ot (xs : List Int) (i : Nat) : Nat := (xs.getD i 0).toNat
def tk (ds : List (Int × Int)) (a b : Nat) : Int := sw (dg ds a).1 (dg ds a).2 (dg ds b).1 (dg ds b).2
/-- The ticks of the first k turns; the same with the turn from the last to the first one ahead. -/
def ssm (ds : List (Int × Int)) (xs : List Int) : Nat → Int
  | 0 => 0
  | k + 1 => ssm ds xs k + tk ds (ot xs k) (ot xs (k + 1))
def pim (ds : List (Int × Int)) (xs : List Int) : Nat → Int
  | 0 => 0
  | k + 1 => tk ds (ot xs (xs.length - 1)) (ot xs 0) + ssm ds xs k
/-- Where the turn k begins. -/
def pn (xs : List Int) (k : Nat) : Nat := if k = 0 then ot xs (xs.length - 1) else ot xs (k - 1)
theorem pim_succ (ds : List (Int × Int)) (xs : List Int) : ∀ k, pim ds xs (k + 1) = pim ds xs k + tk ds (pn xs k) (ot xs k)
  | 0 => by show tk ds _ _ + 0 = 0 + tk ds (pn xs 0) _; unfold pn; rw [if_pos rfl]; omega
  | k + 1 => by show tk ds _ _ + (ssm ds xs k + tk ds (ot xs k) (ot xs (k + 1))) = tk ds _ _ + ssm ds xs k + tk ds (pn xs (k + 1)) _; unfold pn; rw [if_neg (by omega), show k + 1 - 1 = k by omega]; omega
structure OOk (ds : List (Int × Int)) (xs : List Int) : Prop where
  len : xs.length = ds.length
  pos : 1 ≤ ds.length
  le : ds.length ≤ 7
  bd : ∀ k, k < ds.length → Bd (dg ds k).1 (dg ds k).2
  at_ : ∀ k (h : k < xs.length), xs[k] = (ot xs k : Int) ∧ ot xs k < ds.length
theorem OOk.of {ds : List (Int × Int)} {xs : List Int} (h : db ds = true) (ho : ordB xs ds.length = true) : OOk ds xs := by
  obtain ⟨h1, h2, _⟩ := ord_yes ho
  obtain ⟨l1, l7⟩ := db_len h
  refine ⟨h1, l1, l7, fun k hk => db_at h hk, fun k hk => ?_⟩
  have := h2 _ (List.getElem_mem hk)
  have e : xs.getD k 0 = xs[k] := by simp [List.getD, hk]
  unfold ot
  rw [e]
  omega
theorem OOk.pn_lt {ds : List (Int × Int)} {xs : List Int} (h : OOk ds xs) {k : Nat} (hk : k < xs.length) : pn xs k < ds.length := by
  unfold pn
  split
  · exact (h.at_ _ (by omega)).2
  · exact (h.at_ _ (by omega)).2
theorem OOk.tk_bd {ds : List (Int × Int)} {xs : List Int} (h : OOk ds xs) {a b : Nat} (ha : a < ds.length) (hb : b < ds.length) : 0 ≤ tk ds a b ∧ tk ds a b ≤ 8 := sw_bd (h.bd a ha) (h.bd b hb)
theorem OOk.pim_bd {ds : List (Int × Int)} {xs : List Int} (h : OOk ds xs) : ∀ k, k ≤ xs.length → 0 ≤ pim ds xs k ∧ pim ds xs k ≤ 8 * k
  | 0, _ => ⟨Int.le_refl _, by show (0 : Int) ≤ _; omega⟩
  | k + 1, hk => by
    have ih := h.pim_bd k (by omega)
    have := h.tk_bd (h.pn_lt (show k < xs.length by omega)) (h.at_ k (by omega)).2
    rw [pim_succ]
    omega
theorem OOk.ssm_bd {ds : List (Int × Int)} {xs : List Int} (h : OOk ds xs) : ∀ k, k < xs.length → 0 ≤ ssm ds xs k ∧ ssm ds xs k ≤ 8 * k
  | 0, _ => ⟨Int.le_refl _, by show (0 : Int) ≤ _; omega⟩
  | k + 1, hk => by
    have ih := h.ssm_bd k (by omega)
    have := h.tk_bd (h.at_ k (by omega)).2 (h.at_ (k + 1) (by omega)).2
    show 0 ≤ ssm ds xs k + tk ds (ot xs k) (ot xs (k + 1)) ∧ ssm ds xs k + tk ds (ot xs k) (ot xs (k + 1)) ≤ _
    omega
/-- What TourTicks answers. -/
def TT (ds : List (Int × Int)) (xs : List Int) : Int × Bool := if db ds = true ∧ ordB xs ds.length = true then (pim ds xs xs.length, true) else (0, false)

set_option maxHeartbeats 1600000 in
set_option maxRecDepth 100000 in
theorem tour_impl (A : Option Addr) (c : Nat) (A' : Option Addr) (c' B : Nat) (ds : List (Int × Int)) (xs : List Int) (w : World) (hm : ds.length ≤ 9223372036854775807) (hm' : xs.length ≤ 9223372036854775807) (hr : Rd w B A (ds.length * 2) (pcell ds)) (hr' : Rd w B A' xs.length (fun j => (ints xs).getD j undef)) (hB : B ≤ w.heap.size) :
    Calls Try.prog 39 #[.slice A ds.length c, .slice A' xs.length c'] w fun e w' => e = .returned (.tuple #[.int .i64 (TT ds xs).1, .bool (TT ds xs).2]) ∧ w.grownBy w' none := by
  have HA0 := dirs_impl A c B ds w hm hr hB
  cases ha : db ds
  · rw [show TT ds xs = (0, false) by unfold TT; rw [if_neg (by simp [ha])]]
    rw [ha] at HA0
    have HA := Lib.hid HA0
    clear HA0 hr hr' ha
    go_enter Try.func39, Try.ntmps39
    go_wp2_with fail
    refine HA.out.mono ?_
    rintro e w1 ⟨rfl, g1⟩
    go_wp2_with fail
    exact bodyPost_ret (v := .tuple #[.int .i64 0, .bool false]) (by simp [results, Try.results39, go_sem]) rfl ⟨rfl, g1⟩
  · rw [ha] at HA0
    have HA := Lib.hid HA0
    obtain ⟨l1, l7⟩ := db_len ha
    have HO0 := fun (w' : World) (hg : w.grownBy w' none) => ord_impl A' c' B xs ds.length w' l1 l7 hm' (hr'.kept0 hg hB) (Nat.le_trans hB hg.size)
    cases ho : ordB xs ds.length
    · rw [show TT ds xs = (0, false) by unfold TT; rw [if_neg (by simp [ho])]]
      rw [ho] at HO0
      have HO := Lib.hid HO0
      clear HA0 HO0 hr hr' ha ho
      go_enter Try.func39, Try.ntmps39
      go_wp2_with fail
      refine HA.out.mono ?_
      rintro e w1 ⟨rfl, g1⟩
      go_wp2_with fail
      refine (HO.out _ g1).mono ?_
      rintro e w2 ⟨rfl, g2⟩
      go_wp2_with fail
      exact bodyPost_ret (v := .tuple #[.int .i64 0, .bool false]) (by simp [results, Try.results39, go_sem]) rfl ⟨rfl, g1.trans g2⟩
    · rw [ho] at HO0
      have HO := Lib.hid HO0
      have HK := Lib.hid (OOk.of ha ho)
      have HTT := Lib.hid (show TT ds xs = (pim ds xs xs.length, true) by unfold TT; rw [if_pos ⟨ha, ho⟩])
      have HR := Lib.hid (fun (w' : World) (hg : w.grownBy w' none) => hr.kept0 hg hB)
      have HR' := Lib.hid (fun (w' : World) (hg : w.grownBy w' none) => hr'.kept0 hg hB)
      have HLE := Lib.hid (HK.out.len)
      clear HA0 HO0 hr hr' ha ho
      go_enter Try.func39, Try.ntmps39
      go_wp2_with fail
      refine HA.out.mono ?_
      rintro e w1 ⟨rfl, g1⟩
      go_wp2_with fail
      refine (HO.out _ g1).mono ?_
      rintro e w2 ⟨rfl, g2⟩
      have HG1 := Lib.hid (g1.trans g2)
      obtain ⟨q, hq⟩ : ∃ q : Nat, xs.length = q + 1 := ⟨xs.length - 1, by have := HLE.out; omega⟩
      obtain ⟨ad, rfl, _, hc⟩ := (HR'.out _ HG1.out).at_ (show q < xs.length by omega)
      rw [ints_getD xs q (by omega), (HK.out.at_ q (by omega)).1] at hc
      have hq1 : (xs.length : Int) - 1 = (q : Int) := by omega
      have q0 : (0 : Int) ≤ (q : Int) := by omega
      have q1 : (q : Int) < (xs.length : Int) := by omega
      have hp0 : pn xs 0 = ot xs q := by unfold pn; rw [if_pos rfl, show xs.length - 1 = q by omega]
      rw [← hp0] at hc
      have HQ := Lib.hid hq
      clear g1 g2 hp0 hq
      go_wp2_with fail
      go_loopw [6, 7, 28] (fun p a i wr => ∃ k : Nat, k ≤ xs.length ∧ i = .int .i64 k ∧ p = .int .i64 (pim ds xs k) ∧ (a = .int .i64 (pn xs k : Nat)) ∧ w.grownBy wr none) (fun _ _ i _ => xs.length - (intOf i).toNat)
      case atStart => exact ⟨0, Nat.zero_le _, rfl, rfl, rfl, HG1.out⟩
      case round =>
        obtain ⟨k, hkn, rfl, rfl, rfl, hg⟩ := hrel
        by_cases hlt : k < xs.length
        · obtain ⟨ad1, e1, _, hxc⟩ := (HR'.out wr hg).at_ hlt
          obtain rfl : ad = ad1 := by injection e1
          rw [ints_getD xs k hlt, (HK.out.at_ k hlt).1] at hxc
          have hj := (HK.out.at_ k hlt).2
          have hi := HK.out.pn_lt hlt
          have hs := pim_succ ds xs k
          obtain ⟨b1, b2⟩ := HK.out.pim_bd k hkn
          obtain ⟨b3, b4⟩ := HK.out.tk_bd hi hj
          have hpn : pn xs (k + 1) = ot xs k := by unfold pn; rw [if_neg (by omega), show k + 1 - 1 = k by omega]
          have HPN := Lib.hid hpn
          have HSUC := Lib.hid hs
          clear hpn hs hc
          generalize pn xs k = i at *
          generalize ot xs k = j at *
          obtain ⟨ad2, u, v, rfl, _, hx, f0, f1⟩ := Rd.dir (HR.out wr hg) hi
          obtain ⟨ad3, u', v', e3, _, hx', g0, g1⟩ := Rd.dir (HR.out wr hg) hj
          obtain rfl : ad2 = ad3 := by injection e3
          have hb1 := HK.out.bd i hi
          have hb2 := HK.out.bd j hj
          have ht : tk ds i j = sw u v u' v' := by unfold tk; rw [hx, hx']
          rw [hx] at hb1
          rw [hx'] at hb2
          rw [ht] at b3 b4
          have HT := Lib.hid ht
          have HSW := Lib.hid (fun w => sw_impl u v u' v' w hb1 hb2)
          generalize sw u v u' v' = T at *
          generalize pim ds xs k = P at *
          have i0 : (0 : Int) ≤ (i : Int) := by omega
          have i1 : (i : Int) < (ds.length : Int) := by omega
          have j0 : (0 : Int) ≤ (j : Int) := by omega
          have j1 : (j : Int) < (ds.length : Int) := by omega
          have k0 : (0 : Int) ≤ (k : Int) := by omega
          have k1 : (k : Int) < (xs.length : Int) := by omega
          have hk7 : k ≤ 7 := by have := HLE.out; omega
          have q5 : IntKind.i64.wrap (P + T) = P + T := by rw [IntKind.wrap_i64]; omega
          have gA := hg
          clear hg hx hx' ht e1 e3 hb1 hb2
          go_wp2_with fail
          go_region_held3 (fun w' => w'.cell? (ad2.add (i * 2)) = some (.int .i64 u) ∧ w'.cell? ⟨(ad2.add (i * 2)).block, (ad2.add (i * 2)).off + 1, none⟩ = some (.int .i64 v) ∧ w'.cell? (ad2.add (j * 2)) = some (.int .i64 u') ∧ w'.cell? ⟨(ad2.add (j * 2)).block, (ad2.add (j * 2)).off + 1, none⟩ = some (.int .i64 v') ∧ w.grownBy w' none)
            (first
              | (go_split_ands
                 exact ⟨hg.cell (by assumption) (by simp), hg.cell (by assumption) (by simp), hg.cell (by assumption) (by simp), hg.cell (by assumption) (by simp), World.grownBy.trans (by assumption) hg⟩)
              | exact ⟨f0, f1, g0, g1, ⟨gA.os, gA.tape, gA.output, gA.size, gA.block⟩⟩)
            ((go_at_call 99; refine (HSW.out _).mono ?_; rintro e w6 ⟨rfl, hg⟩; have gT : w.grownBy w6 none := (by refine World.grownBy.trans ?_ hg; exact ⟨gA.os, gA.tape, gA.output, gA.size, gA.block⟩)))
          have HGT := Lib.hid gT
          go_wp2_with fail
          go_roundw
          case rel => exact ⟨k + 1, by omega, by go_num, by rw [HSUC.out, HT.out], by rw [HPN.out], HGT.out⟩
          case measure => simp [intOf]; omega
        · obtain rfl : k = xs.length := by omega
          have HG := Lib.hid hg
          clear hg hc
          go_wp2_with fail
          rw [HTT.out]
          exact bodyPost_ret (v := .tuple #[.int .i64 (pim ds xs xs.length), .bool true]) (by simp [results, Try.results39, go_sem]) rfl ⟨rfl, HG.out⟩

end Go.Proofs.Ytmemclcoegmjjaa.tourC
