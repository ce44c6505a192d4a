/- The search for the shortest tour, by the model. -/
import Derived.Test.YtmemclcoegmjjaaRows
import Derived.Test.YtmemclcoegmjjaaSlc
import Derived.Test.YtmemclcoegmjjaaSmall
import Derived.Test.YtmemclcoegmjjaaOpens
import Derived.Test.YtmemclcoegmjjaaListI
import Derived.Test.YtmemclcoegmjjaaPlanNum
import Derived.Test.YtmemclcoegmjjaaSwT
import Derived.Test.YtmemclcoegmjjaaBeamsOk
import Derived.Test.YtmemclcoegmjjaaListDir
import Derived.Test.YtmemclcoegmjjaaDirsOk
import Derived.Test.YtmemclcoegmjjaaSortO
import Derived.Test.YtmemclcoegmjjaaSeqV
import Derived.Test.YtmemclcoegmjjaaOrdC
import Derived.Test.YtmemclcoegmjjaaTourC
import Derived.Test.YtmemclcoegmjjaaTourS
import Derived.Test.YtmemclcoegmjjaaTourQ
import Derived.Test.YtmemclcoegmjjaaTourN
import Derived.Test.YtmemclcoegmjjaaTourM
import Derived.Test.YtmemclcoegmjjaaFarF
import Derived.WalkKit
import Derived.ProofKit
import Derived.OpenShut
import Derived.ShutString
import Derived.ChangeOld
import Derived.Below
import Derived.Lib.Hide
import Derived.BigQuiet
import Derived.Deep.QuietTactic
import Derived.WalkLawsBesides
import Derived.Outline
import Derived.Deep.QuietTactic
import Derived.BigQuiet
import Derived.Deep.LoopGhost
import Derived.Deep.RegionHeld3
import Derived.Deep.RegionWith
import Derived.Deep.OwnRows
namespace Go.Proofs.Ytmemclcoegmjjaa.tourB
open Go.ChangeShapes Go.WideShapes Go.ChangeAt Go.RowKit
open Go.ChangeMaps (open_string shut_string)
set_option linter.unusedVariables false
open Go Go.RowKit
open Go.Proofs.Ytmemclcoegmjjaa.slc Go.Proofs.Ytmemclcoegmjjaa.small Go.Proofs.Ytmemclcoegmjjaa.opens Go.Proofs.Ytmemclcoegmjjaa.listI Go.Proofs.Ytmemclcoegmjjaa.planNum Go.Proofs.Ytmemclcoegmjjaa.dirsOk Go.Proofs.Ytmemclcoegmjjaa.ordC Go.Proofs.Ytmemclcoegmjjaa.tourC Go.Proofs.Ytmemclcoegmjjaa.tourS Go.Proofs.Ytmemclcoegmjjaa.tourQ Go.Proofs.Ytmemclcoegmjjaa.tourN Go.Proofs.Ytmemclcoegmjjaa.tourM Go.Proofs.Ytmemclcoegmjjaa.farF

set_option maxHeartbeats 1000000 in
set_option maxRecDepth 100000 in
theorem own_c (ad : Addr) (c B n1 : Nat) (ms : List Int) (w : World) (hl : ms.length ≤ 65536) (hn1 : n1 ≤ w.heap.size) (hr : Rd w B (some ad) ms.length (fun j => (ints ms).getD j undef)) (hB : B ≤ w.heap.size) :
    Calls Try.prog 162 #[.slice (some ad) ms.length c] w fun e w' => ∃ A' c', e = .returned (.slice A' ms.length c') ∧ w'.ownsRow n1 2 1 (.slice A' ms.length c') ms.length (ints ms) ∧ w.grownBy w' none := by
  obtain ⟨i0, hi0, hz0, hz1, hz2⟩ := info_parts tourQ.infoI
  have ga := World.grownBy_alloc w (.cells #[] 2) none
  have ho0 := World.ownsRow_lit (base := n1) (e := 2) (size := 1) w #[] 0 hn1 (Nat.zero_le _) rfl
  have hcell : ∀ j u, (ints ms)[j]? = some u → (w.alloc (.cells #[] 2)).cell? (ad.add j) = some u := fun j u hu => by
    have hj : j < ms.length := by
      rw [← ints_len ms]
      exact (List.getElem?_eq_some_iff.1 hu).1
    obtain ⟨ad2, e2, _, c2⟩ := (hr.kept0 ga hB).at_ hj
    injection e2 with e2
    subst e2
    rw [c2]
    simp [List.getD, hu]
  have HC := Lib.hid hcell
  have HO := Lib.hid ho0
  have HG := Lib.hid ga
  have hil := ints_len ms
  clear hcell ho0 ga hr
  generalize hL : ms.length = L at *
  go_enter Try.func162, Try.ntmps162
  go_wp2_with (at_builtin; refine wpList_append_own _ rfl _ _ 59 rfl n1 2 i0 (.int .i64 0) 1 8 Try.underlying59 hi0 hz0 hz1 hz2 rfl (by decide) _ _ _ rfl HO.out ad L c (ints ms) rfl (by rw [hil, Nat.mul_one]) HC.out (by intro u hu; obtain ⟨x, _, rfl⟩ := List.mem_map.1 hu; rfl) (by unfold maxLen; omega) (by omega) (by simp; omega) ?_; intro v' w4 hown' hgrow _)
  rw [Nat.zero_add, List.nil_append] at hown'
  obtain ⟨A', c', rfl⟩ := tourQ.row_slice hown'
  have G4 := gb_new HG.out hgrow (by
    intro g e
    have : w.heap.size = g := by simpa [Value.ownBlock, Act.eval] using e
    omega)
  go_ret
  exact ⟨A', c', rfl, hown', G4⟩


theorem gz_mem (p : List Nat) (k : Nat) : decide ((k : Int) ∈ gz p) = decide (k ∈ p) := by
  rw [decide_eq_decide]
  unfold gz
  simp only [List.mem_map]
  constructor
  · rintro ⟨a, ha, e⟩
    obtain rfl : a = k := by omega
    exact ha
  · intro h
    exact ⟨k, h, rfl⟩
theorem gz_snoc (g : List Nat) (x : Nat) : gz (g ++ [x]) = gz g ++ [(x : Int)] := by simp [gz]
/-- What a call of l09Best does. -/
def BestC (A : Option Addr) (c : Nat) (ds : List (Int × Int)) (p : List Nat) (m : Nat) : Prop :=
  ∀ (ad : Addr) (c' : Nat) (w : World), Rd w w.heap.size A (ds.length * 2) (pcell ds) → Rd w w.heap.size (some ad) p.length (fun j => (ints (gz p)).getD j undef) →
    Calls Try.prog 128 #[.slice A ds.length c, .slice (some ad) p.length c'] w fun e w' => ∃ O d, e = .returned (.tuple #[.slice O ds.length d, .int .i64 (TV ds ds.length p m)]) ∧ w'.ownsRow w.heap.size 2 1 (.slice O ds.length d) ds.length (ints (gz (TL ds ds.length p m))) ∧ w.grownBy w' none
section
attribute [local go_sem ↓] app_stop
set_option maxHeartbeats 3200000 in
set_option maxRecDepth 100000 in
theorem best_c (A : Option Addr) (c : Nat) (ds : List (Int × Int)) (hd : db ds = true) : ∀ (r m : Nat) (p : List Nat), pc m = r → Inv ds.length p m → BestC A c ds p m
  | 0, m, p, hr, hi => by
    obtain ⟨l1, l7⟩ := db_len hd
    have hm : m = 0 := (pc_zero m (Nat.lt_of_lt_of_le hi.lt (two_le l7))).1 hr
    subst hm
    intro ad c' w hA hP
    have hpl := (hi.full l7).2 rfl
    obtain ⟨e1, e2⟩ := TV_full ds hi
    have HO0 := own_c ad c' w.heap.size w.heap.size (gz p) w (by rw [gz_len]; omega) (Nat.le_refl _) (by rw [gz_len]; exact hP) (Nat.le_refl _)
    have HT0 := fun (w' : World) (hg : w.grownBy w' none) => ticks_c A c (some ad) c' w.heap.size ds (gz p) w' (hi.ook hd) (hA.kept0 hg (Nat.le_refl _)) (by rw [gz_len]; exact hP.kept0 hg (Nat.le_refl _)) hg.size
    rw [e1, e2]
    rw [gz_len, hpl] at HO0 HT0
    rw [gz_len, hpl]
    have HO := Lib.hid HO0
    have HT := Lib.hid HT0
    clear HO0 HT0 hA hP hi hpl e1 e2
    go_enter Try.func128, Try.ntmps128
    go_wp2_with fail
    refine HO.out.mono ?_
    rintro e w1 ⟨O, d, rfl, ho, hg⟩
    have HO1 := Lib.hid ho
    have HG1 := Lib.hid hg
    clear ho hg
    go_wp2_with fail
    refine (HT.out _ HG1.out).mono ?_
    rintro e w2 ⟨rfl, g2⟩
    go_wp2_with fail
    go_ret2
    exact ⟨O, d, rfl, own_kept0 HO1.out g2, HG1.out.trans g2⟩
  | r + 1, m, p, hr, hi => by
    obtain ⟨l1, l7⟩ := db_len hd
    have h7 := two_le l7
    have hlt := hi.lt
    have hm : m ≠ 0 := fun h => by rw [h, show pc 0 = 0 by decide +kernel] at hr; omega
    have hpl : ¬ p.length = ds.length := fun h => hm ((hi.full l7).1 h)
    have HIH := Lib.hid (fun k (hk : k < ds.length) (hb : m.testBit k = true) => best_c A c ds hd r (m - 2 ^ k) (p ++ [k]) (by have := (clr m (by omega) k (by omega) hb).1; omega) (hi.next l7 hk hb))
    have HI := Lib.hid hi
    have HD := Lib.hid hd
    intro ad c' w hA hP
    have HA := Lib.hid (fun (w' : World) (hg : w.grownBy w' none) => (hA.kept0 hg (Nat.le_refl _)).mono hg.size)
    have HP := Lib.hid (fun (w' : World) (hg : w.grownBy w' none) => (hP.kept0 hg (Nat.le_refl _)).mono hg.size)
    have HE := Lib.hid (best_end ds hi hm)
    have HM := Lib.hid hm
    have hp7 : p.length ≤ 7 := by have := hi.cnt; omega
    have hlz : ¬ (p.length : Int) = (ds.length : Int) := by omega
    have HST := Lib.hid (World.ownsRow_lit (base := w.heap.size) (e := 2) (size := 1) w #[] 0 (Nat.le_refl _) (Nat.zero_le _) rfl)
    obtain ⟨i0, hi0, hz0, hz1, hz2⟩ := info_parts tourQ.infoI
    clear hA hP hi hd hr hm hpl hlt
    go_enter Try.func128, Try.ntmps128
    go_wp2_with fail
    go_loopw [6, 7, 8] (fun v q i wr => ∃ k : Nat, k ≤ ds.length ∧ i = .int .i64 k ∧ q = .int .i64 (bestV ds ds.length p m k) ∧ (∃ O d, v = .slice O (bestL ds ds.length p m k).length d ∧ wr.ownsRow w.heap.size 2 1 (.slice O (bestL ds ds.length p m k).length d) (bestL ds ds.length p m k).length (ints (gz (bestL ds ds.length p m k)))) ∧ w.grownBy wr none) (fun _ _ i _ => ds.length - (intOf i).toNat)
    case atStart => exact ⟨0, Nat.zero_le _, rfl, rfl, ⟨_, _, rfl, HST.out⟩, World.grownBy_alloc _ _ _⟩
    case round =>
      obtain ⟨k, hkn, rfl, rfl, ⟨O, d, rfl, hou⟩, hg⟩ := hrel
      by_cases hlt : k < ds.length
      · have HC0 := has_c (some ad) c' wr.heap.size (gz p) (k : Int) wr (by rw [gz_len]; omega) (by rw [gz_len]; exact HP.out wr hg)
        rw [gz_len, gz_mem, show decide (k ∈ p) = !m.testBit k by rw [HI.out.mask k hlt]; simp] at HC0
        have k0 : (0 : Int) ≤ (k : Int) := by omega
        have k1 : (k : Int) < (ds.length : Int) := by omega
        cases hb : m.testBit k
        · rw [hb] at HC0
          have HC := Lib.hid HC0
          obtain ⟨e1, e2⟩ := best_skip ds ds.length p m hb
          have HE1 := Lib.hid e1
          have HE2 := Lib.hid e2
          have HO := Lib.hid hou
          have HG := Lib.hid hg
          clear HC0 hou hg e1 e2 hb
          generalize bestV ds ds.length p m k = BV at *
          go_wp2_with fail
          refine HC.out.mono ?_
          rintro e w' ⟨rfl, rfl⟩
          go_wp2_with fail
          go_roundw
          case rel => exact ⟨k + 1, by omega, by go_num, by rw [HE2.out], ⟨O, d, by rw [HE1.out], by rw [HE1.out]; exact HO.out⟩, HG.out⟩
          case measure => simp [intOf]; omega
        · rw [hb] at HC0
          have HC := Lib.hid HC0
          have HOW0 := own_c ad c' wr.heap.size wr.heap.size (gz p) wr (by rw [gz_len]; omega) (Nat.le_refl _) (by rw [gz_len]; exact HP.out wr hg) (Nat.le_refl _)
          rw [gz_len] at HOW0
          have HOW := Lib.hid HOW0
          have hnx := HI.out.next l7 hlt hb
          obtain ⟨t0, t1⟩ := TV_bd HD.out hnx
          have hbv : -1 ≤ bestV ds ds.length p m k := by
            unfold bestV
            cases hf : fm (tourN.V ds.length (tk ds) (lp p) m) m k with
            | none => exact Int.le_refl _
            | some q =>
              obtain ⟨a1, a2, _, _⟩ := fm_is hf
              have := (TV_bd HD.out (HI.out.next l7 (show q < ds.length by omega) a2)).1
              show (-1 : Int) ≤ TV ds ds.length (p ++ [q]) (m - 2 ^ q)
              omega
          have HTK := Lib.hid (fun h => best_take ds HI.out hb h (fun q hq hqb => (TV_bd HD.out (HI.out.next l7 (show q < ds.length by omega) hqb)).1))
          have HKP := Lib.hid (fun h => best_keep ds HI.out hb h)
          have HIK := Lib.hid (HIH.out k hlt hb)
          have HTL := Lib.hid (TL_len ds hnx l7).1
          have HO := Lib.hid hou
          have HG := Lib.hid hg
          have hpn : (p ++ [k]).length = p.length + 1 := by simp
          have HPN := Lib.hid hpn
          clear HC0 HOW0 hou hg hb hnx hpn
          go_wp2_with fail
          refine HC.out.mono ?_
          rintro e w' ⟨rfl, rfl⟩
          go_wp2_with fail
          refine HOW.out.mono ?_
          rintro e w3 ⟨A3, c3, rfl, ho3, g3⟩
          obtain ⟨A6, c6, w6, hrun, z1, z2⟩ := app_v (k : Int) i0 hi0 hz0 hz1 hz2 g3.size ho3 (by omega) (World.grownBy.refl w3 none)
          obtain ⟨g6, cap6, e6, _, _⟩ := z1.form (by omega)
          injection e6 with e6 _ e7
          subst e6 e7
          have hab := own_base ho3
          have gA := gb_new (g3.trans (World.grownBy_alloc w3 (.cells #[.int .i64 (k : Int)] 2) none)) z2 (fun g e => (hab g e).1)
          have hrd := Rd.of_own z1 (Nat.mul_one _).symm
          have HB0 := fun cc => HIK.out ⟨g6, 0, none⟩ cc w6 (HA.out w6 (HG.out.trans gA)) (by rw [HPN.out, gz_snoc]; exact hrd)
          rw [HPN.out] at HB0
          have HB := Lib.hid HB0
          have HGA := Lib.hid gA
          clear ho3 g3 z1 z2 hab gA hrd HB0
          generalize TV ds ds.length (p ++ [k]) (m - 2 ^ k) = TVK at *
          generalize bestV ds ds.length p m k = BV at *
          go_wp2_with fail
          refine (HB.out _).mono ?_
          rintro e w7 ⟨O7, d7, rfl, ho7, g7⟩
          have HO7 := Lib.hid (own_mono ho7 (HG.out.trans HGA.out).size)
          have HOK := Lib.hid (own_kept0 HO.out (HGA.out.trans g7))
          have HG7 := Lib.hid ((HG.out.trans HGA.out).trans g7)
          clear ho7 g7
          by_cases hc1 : BV < 0
          · obtain ⟨e1, e2⟩ := HTK.out (Or.inl hc1)
            have HE1 := Lib.hid e1
            have HE2 := Lib.hid e2
            clear e1 e2
            go_wp2_with fail
            go_roundw
            case rel => exact ⟨k + 1, by omega, by go_num, by rw [HE2.out], ⟨O7, d7, by rw [HE1.out, HTL.out], by rw [HE1.out, HTL.out]; exact HO7.out⟩, HG7.out⟩
            case measure => simp [intOf]; omega
          · by_cases hc2 : TVK < BV
            · obtain ⟨e1, e2⟩ := HTK.out (Or.inr hc2)
              have HE1 := Lib.hid e1
              have HE2 := Lib.hid e2
              clear e1 e2
              go_wp2_with fail
              go_roundw
              case rel => exact ⟨k + 1, by omega, by go_num, by rw [HE2.out], ⟨O7, d7, by rw [HE1.out, HTL.out], by rw [HE1.out, HTL.out]; exact HO7.out⟩, HG7.out⟩
              case measure => simp [intOf]; omega
            · obtain ⟨e1, e2⟩ := HKP.out (fun h => h.elim hc1 hc2)
              have HE1 := Lib.hid e1
              have HE2 := Lib.hid e2
              clear e1 e2
              go_wp2_with fail
              go_roundw
              case rel => exact ⟨k + 1, by omega, by go_num, by rw [HE2.out], ⟨O, d, by rw [HE1.out], by rw [HE1.out]; exact HOK.out⟩, HG7.out⟩
              case measure => simp [intOf]; omega
      · obtain rfl : k = ds.length := by omega
        obtain ⟨e1, e2⟩ := HE.out
        have hl := (TL_len ds HI.out l7).1
        rw [e1, hl] at hou ⊢
        rw [e2]
        have HO := Lib.hid hou
        have HG := Lib.hid hg
        clear hou hg
        go_wp2_with fail
        go_ret2
        exact ⟨O, d, rfl, HO.out, HG.out⟩
end
/-- The shortest tour. -/
def SL (ds : List (Int × Int)) : List Int := if db ds = true then gz (TL ds ds.length [0] (2 ^ ds.length - 2)) else []
def SV (ds : List (Int × Int)) : Int := if db ds = true then TV ds ds.length [0] (2 ^ ds.length - 2) else 0
theorem SL_len (ds : List (Int × Int)) : (SL ds).length ≤ 7 := by
  unfold SL
  split
  · rename_i h
    obtain ⟨l1, l7⟩ := db_len h
    rw [gz_len, (TL_len ds (Inv.start l1 l7) l7).1]
    exact l7
  · exact Nat.zero_le _
set_option maxHeartbeats 800000 in
set_option maxRecDepth 100000 in
theorem short_spec (A : Option Addr) (c B : Nat) (ds : List (Int × Int)) (w : World) (hm : ds.length ≤ 9223372036854775807) (hr : Rd w B A (ds.length * 2) (pcell ds)) (hB : B ≤ w.heap.size) :
    Calls Try.prog 59 #[.slice A ds.length c] w fun e w' => ∃ O d, e = .returned (.tuple #[.slice O (SL ds).length d, .int .i64 (SV ds), .bool (db ds)]) ∧ w'.ownsRow w.heap.size 2 1 (.slice O (SL ds).length d) (SL ds).length (ints (SL ds)) ∧ w.grownBy w' none := by
  have HA0 := dirs_spec A c B ds w hm hr hB
  cases ha : db ds
  · rw [show SL ds = [] by unfold SL; rw [if_neg (by simp [ha])], show SV ds = 0 by unfold SV; rw [if_neg (by simp [ha])]]
    rw [ha] at HA0
    have HA := Lib.hid HA0
    clear HA0 hr ha
    go_enter Try.func59, Try.ntmps59
    go_wp2_with fail
    refine HA.out.mono ?_
    rintro e w1 ⟨rfl, g1⟩
    go_wp2_with fail
    exact bodyPost_ret (v := .tuple #[.slice none 0 0, .int .i64 0, .bool false]) (by simp [results, Try.results59, go_sem]) rfl ⟨none, 0, rfl, World.ownsRow_nil _ _ _ _, g1⟩
  · rw [ha] at HA0
    have HA := Lib.hid HA0
    obtain ⟨l1, l7⟩ := db_len ha
    have hi := Inv.start l1 l7
    have hl : (SL ds).length = ds.length := by unfold SL; rw [if_pos ha, gz_len, (TL_len ds hi l7).1]
    have hs : SL ds = gz (TL ds ds.length [0] (2 ^ ds.length - 2)) := by unfold SL; rw [if_pos ha]
    have hv : SV ds = TV ds ds.length [0] (2 ^ ds.length - 2) := by unfold SV; rw [if_pos ha]
    have HB := Lib.hid (best_c A c ds ha _ _ _ rfl hi)
    have HR := Lib.hid (fun (w' : World) (hg : w.grownBy w' none) => (hr.kept0 hg hB).mono (Nat.le_trans hB hg.size))
    rw [hl, hs, hv]
    clear HA0 hr ha hi hl hs hv
    go_enter Try.func59, Try.ntmps59
    go_wp2_with fail
    refine HA.out.mono ?_
    rintro e w1 ⟨rfl, g1⟩
    have g2 := World.grownBy_alloc w1 (.cells #[.int .i64 0] 2) none
    have hrow : (w1.alloc (.cells #[.int .i64 0] 2)).ownsRow w1.heap.size 2 1 (.slice (some ⟨w1.heap.size, 0, none⟩) 1 1) 1 (ints (gz [0])) := World.ownsRow_lit (base := w1.heap.size) (e := 2) (size := 1) w1 #[.int .i64 0] 1 (Nat.le_refl _) (by decide) rfl
    have HBB := Lib.hid (HB.out ⟨w1.heap.size, 0, none⟩ 1 _ (HR.out _ (g1.trans g2)) (Rd.of_own hrow (Nat.mul_one _).symm))
    have HG := Lib.hid (g1.trans g2)
    clear g1 g2 hrow
    go_wp2_with fail
    refine HBB.out.mono ?_
    rintro e w2 ⟨O, d, rfl, ho, g3⟩
    have HO := Lib.hid (own_mono ho HG.out.size)
    have HG3 := Lib.hid (HG.out.trans g3)
    clear ho g3
    go_wp2_with fail
    exact bodyPost_ret (v := .tuple #[.slice O ds.length d, .int .i64 (TV ds ds.length [0] (2 ^ ds.length - 2)), .bool true]) (by simp [results, Try.results59, go_sem]) rfl ⟨O, d, rfl, HO.out, HG3.out⟩

end Go.Proofs.Ytmemclcoegmjjaa.tourB
