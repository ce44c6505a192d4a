/- What all elements receive, in numbers. -/
/- What all elements receive, by the model. -/
/- Snapshots, by the program and the model. -/
import Derived.Test.YtpmjheofjmdfeaaRows
import Derived.Test.YtpmjheofjmdfeaaSlc
import Derived.Test.YtpmjheofjmdfeaaSmall
import Derived.Test.YtpmjheofjmdfeaaOpens
import Derived.Test.YtpmjheofjmdfeaaPlaceAll
import Derived.Test.YtpmjheofjmdfeaaFloatAll
import Derived.Test.YtpmjheofjmdfeaaFWalk
import Derived.Test.YtpmjheofjmdfeaaFinWalk
import Derived.Test.YtpmjheofjmdfeaaRoot
import Derived.Test.YtpmjheofjmdfeaaFlAll
import Derived.Test.YtpmjheofjmdfeaaPhasor
import Derived.Test.YtpmjheofjmdfeaaListC
import Derived.Test.YtpmjheofjmdfeaaListCC
import Derived.Test.YtpmjheofjmdfeaaSteerNum
import Derived.Test.YtpmjheofjmdfeaaSineIn
import Derived.Test.YtpmjheofjmdfeaaPolyAll
import Derived.Test.YtpmjheofjmdfeaaGAll
import Derived.Test.YtpmjheofjmdfeaaTwinNum
import Derived.Test.YtpmjheofjmdfeaaPhDef
import Derived.Test.YtpmjheofjmdfeaaPhTabA
import Derived.Test.YtpmjheofjmdfeaaPhTabB
import Derived.Test.YtpmjheofjmdfeaaPhTabC
import Derived.Test.YtpmjheofjmdfeaaPhTabD
import Derived.Test.YtpmjheofjmdfeaaPhAll
import Derived.Test.YtpmjheofjmdfeaaFitAll
import Derived.Test.YtpmjheofjmdfeaaSeedAll
import Derived.Test.YtpmjheofjmdfeaaSrcsAll
import Derived.Test.YtpmjheofjmdfeaaSteering
import Derived.WalkKit
import Derived.ProofKit
import Derived.OpenShut
import Derived.ShutString
import Derived.ChangeOld
import Derived.Below
import Derived.Lib.Hide
import Derived.BigQuiet
import Derived.Deep.QuietTactic
import Derived.WalkLawsBesides
import Derived.Outline
import Derived.Deep.LoopGhost
import Derived.Deep.RegionHeld3
import Derived.Deep.RegionWith
import Derived.Laws.ComplexArith
import Derived.StillTailTactics
namespace Go.Proofs.Ytpmjheofjmdfeaa.shot
open Go.ChangeShapes Go.WideShapes Go.ChangeAt Go.RowKit
open Go.ChangeMaps (open_string shut_string)
set_option linter.unusedVariables false
open Go Ieee Go.RowKit
open Go.Proofs.Ytpmjheofjmdfeaa.slc Go.Proofs.Ytpmjheofjmdfeaa.small Go.Proofs.Ytpmjheofjmdfeaa.opens Go.Proofs.Ytpmjheofjmdfeaa.places Go.Proofs.Ytpmjheofjmdfeaa.floats Go.Proofs.Ytpmjheofjmdfeaa.round Go.Proofs.Ytpmjheofjmdfeaa.values Go.Proofs.Ytpmjheofjmdfeaa.conv Go.Proofs.Ytpmjheofjmdfeaa.fWalk Go.Proofs.Ytpmjheofjmdfeaa.listC Go.Proofs.Ytpmjheofjmdfeaa.listCC Go.Proofs.Ytpmjheofjmdfeaa.steerNum Go.Proofs.Ytpmjheofjmdfeaa.mulAny Go.Proofs.Ytpmjheofjmdfeaa.fitsAny Go.Proofs.Ytpmjheofjmdfeaa.seeds Go.Proofs.Ytpmjheofjmdfeaa.symbol Go.Proofs.Ytpmjheofjmdfeaa.noise Go.Proofs.Ytpmjheofjmdfeaa.sources Go.Proofs.Ytpmjheofjmdfeaa.listSrc Go.Proofs.Ytpmjheofjmdfeaa.srcs Go.Proofs.Ytpmjheofjmdfeaa.steering

theorem run_fa (w : World) (op : BinOp) (k : FloatKind) (x y : Nat) (h : arithOp op = true) : (Op.floatArith op k x y).run Try.prog w = .ok (.float k (fval op k w x y)) (w.drewN (fcnt op k x y)) := by
  have := run_floatop (P := Try.prog) w op 35 k x y h
  cases op <;> simp [arithOp] at h <;> simpa [binOp] using this
theorem run_ca (w : World) (x y : Nat) : (Op.Complex.arith .add .f32 x y).run Try.prog w = .ok (fval .add .f32 w x y) (w.drewN (fcnt .add .f32 x y)) := by
  simp [Op.Complex.arith, run_fa w .add .f32 x y rfl]
theorem cadd_any (w : World) (t : TypeId) (a b c d : Nat) : (binOp .add t (.complex .f32 a b) (.complex .f32 c d)).run Try.prog w = .ok (.complex .f32 (fval .add .f32 w a c) (fval .add .f32 (w.drewN (fcnt .add .f32 a c)) b d)) (w.drewN (fcnt .add .f32 a c + fcnt .add .f32 b d)) := by
  simp [binOp, Op.complexOp, run_ca, World.drewN_drewN]

theorem sy_half (b : Int) : Half (sy b) := by
  unfold sy
  split
  · exact half_pos
  · exact half_neg
/-- What a source sends. -/
def sent (s i : Int) (g : Nat) : Nat × Nat := (fop .mul .f32 (sy (dr s (2 * i) / 16384)) g, fop .mul .f32 (sy (dr s (2 * i) / 8192)) g)
/-- What is received of it in a phase. -/
def inc (x q : Nat × Nat) : Nat × Nat := (mp .sub x.1 x.2 q.1 q.2, mp .add x.1 x.2 q.2 q.1)
theorem inc_can {a b : Nat} {x : Nat × Nat} (q : Nat × Nat) (ha : can .f32 a = x.1) (hb : can .f32 b = x.2) : inc (a, b) q = inc x q := by
  have ha' : can .f32 a = can .f32 x.1 := by rw [← ha, can_can]
  have hb' : can .f32 b = can .f32 x.2 := by rw [← hb, can_can]
  unfold inc mp
  rw [mp_can .sub q.1 q.2 ha' hb', mp_can .add q.2 q.1 ha' hb']
def plus (x y : Nat × Nat) : Nat × Nat := (fop .add .f32 x.1 y.1, fop .add .f32 x.2 y.2)
/-- What element k has received of the first sources. -/
def cs (ps : List (Int × Int)) (ss : List (Int × Int × Nat × Int)) (i : Int) (k : Nat) : Nat → Nat × Nat
  | 0 => (0, 0)
  | j + 1 => plus (cs ps ss i k j) (inc (sent (ss.getD j (0, 0, 0, 0)).2.2.2 i (ss.getD j (0, 0, 0, 0)).2.2.1) ((stl ps (ss.getD j (0, 0, 0, 0)).1 (ss.getD j (0, 0, 0, 0)).2.1).getD k (0, 0)))
def nse (s i k : Int) (t : Nat) : Nat × Nat := (nz (dr s (2 * (16 * i + k + 1000000))) t, nz (dr s (2 * (16 * i + k + 1000000) + 1)) t)
/-- The words of l are the numbers F. -/
def Cn (l : List (Nat × Nat)) (n : Nat) (F : Nat → Nat × Nat) : Prop := l.length = n ∧ ∀ k, k < n → can .f32 (l.getD k (0, 0)).1 = (F k).1 ∧ can .f32 (l.getD k (0, 0)).2 = (F k).2
theorem Cn.same {l m : List (Nat × Nat)} {n : Nat} {F : Nat → Nat × Nat} (h : Cn l n F) (h' : Cn m n F) : SameL l m :=
  ⟨by rw [h.1, h'.1], fun j hj => by rw [h.1] at hj; exact ⟨(h.2 j hj).1.trans (h'.2 j hj).1.symm, (h.2 j hj).2.trans (h'.2 j hj).2.symm⟩⟩
theorem Cn.set {l : List (Nat × Nat)} {n k : Nat} {F : Nat → Nat × Nat} {x y : Nat × Nat} (h : Cn l n F) (hk : k < n) (h1 : can .f32 x.1 = y.1) (h2 : can .f32 x.2 = y.2) : Cn (l.set k x) n (fun j => if j = k then y else F j) := by
  refine ⟨by simp [h.1], fun j hj => ?_⟩
  dsimp only
  by_cases e : j = k
  · subst e
    rw [if_pos rfl, show (l.set j x).getD j (0, 0) = x by simp [List.getD, h.1, hj]]
    exact ⟨h1, h2⟩
  · rw [if_neg e, show (l.set k x).getD j (0, 0) = l.getD j (0, 0) by simp [List.getD, Ne.symm e]]
    exact h.2 j hj
theorem plus_can {a b c d : Nat} {x y : Nat × Nat} (h1 : can .f32 a = x.1) (h2 : can .f32 b = x.2) (h3 : can .f32 c = y.1) (h4 : can .f32 d = y.2) (w1 w2 : World) :
    can .f32 (fval .add .f32 w1 a c) = (plus x y).1 ∧ can .f32 (fval .add .f32 w2 b d) = (plus x y).2 := by
  rw [can_fval, can_fval]
  exact ⟨fop_eq _ _ h1 h3, fop_eq _ _ h2 h4⟩
theorem set_ccell (l : List (Nat × Nat)) (n k : Nat) (hk : k < n) (hn : l.length = n) (x : Nat × Nat) : (lst (ccell l) n).set k (.complex .f32 x.1 x.2) = lst (ccell (l.set k x)) n := by
  apply List.ext_getElem?
  intro i
  rw [List.getElem?_set]
  by_cases e : k = i
  · subst e
    rw [if_pos rfl, if_pos (by rw [lst_len]; exact hk), lst_get _ _ _ hk]
    simp [ccell, List.getD, hn, hk]
  · rw [if_neg e]
    by_cases hi : i < n
    · rw [lst_get _ _ _ hi, lst_get _ _ _ hi]
      simp [ccell, List.getD, e]
    · rw [List.getElem?_eq_none (by rw [lst_len]; omega), List.getElem?_eq_none (by rw [lst_len]; omega)]

theorem Cn.congr {l : List (Nat × Nat)} {n : Nat} {F G : Nat → Nat × Nat} (h : Cn l n F) (e : ∀ k, k < n → F k = G k) : Cn l n G := ⟨h.1, fun k hk => by rw [← e k hk]; exact h.2 k hk⟩
theorem stl_at (ps : List (Int × Int)) (u v : Int) (q : Nat) (hq : q < ps.length) : (stl ps u v).getD q (0, 0) = phz (ps[q].1 * u + ps[q].2 * v) := by
  simp [stl, List.getD, hq]
theorem vs_at {ss : List (Int × Int × Nat × Int)} (h : vs ss = true) {j : Nat} (hj : j < ss.length) : dirB (ss.getD j (0, 0, 0, 0)).1 (ss.getD j (0, 0, 0, 0)).2.1 = true ∧ 0 ≤ (ss.getD j (0, 0, 0, 0)).2.2.2 ∧ (ss.getD j (0, 0, 0, 0)).2.2.2 ≤ 2147483647 := by
  unfold vs at h
  rw [Bool.and_eq_true, List.all_eq_true] at h
  have h2 := h.2 ss[j] (List.getElem_mem hj)
  rw [show ss.getD j (0, 0, 0, 0) = ss[j] by simp [List.getD, hj]]
  unfold sb at h2
  rw [Bool.and_eq_true] at h2
  exact ⟨h2.1, of_decide_eq_true h2.2⟩
theorem vs_len {ss : List (Int × Int × Nat × Int)} (h : vs ss = true) : ss.length ≤ 4 := by
  unfold vs at h
  rw [Bool.and_eq_true] at h
  exact of_decide_eq_true h.1
theorem cs_step {ps : List (Int × Int)} {ss : List (Int × Int × Nat × Int)} {i : Int} {j : Nat} {u v s : Int} {g : Nat} (hx : ss.getD j (0, 0, 0, 0) = (u, v, g, s)) (k : Nat) :
    cs ps ss i k (j + 1) = plus (cs ps ss i k j) (inc (sent s i g) ((stl ps u v).getD k (0, 0))) := by
  show plus _ _ = _
  rw [hx]
theorem getD_repl (n k : Nat) : (List.replicate n ((0, 0) : Nat × Nat)).getD k (0, 0) = (0, 0) := by
  by_cases h : k < n
  · simp [List.getD, h]
  · simp [List.getD, h]
theorem Cn.zero (n : Nat) (ps : List (Int × Int)) (ss : List (Int × Int × Nat × Int)) (i : Int) : Cn (List.replicate n (0, 0)) n (fun k => cs ps ss i k 0) :=
  ⟨by simp, fun k hk => by rw [getD_repl]; exact ⟨rfl, rfl⟩⟩
theorem zeros_cells (n : Nat) : lst (ccell (List.replicate n (0, 0))) n = List.replicate n (.complex .f32 0 0) := by
  rw [replicate_lst]
  exact lst_congr fun j hj => by unfold ccell; rw [getD_repl]

attribute [local go_sem] run_store_float run_store_complex cadd_any
set_option maxHeartbeats 1600000 in
set_option maxRecDepth 100000 in
theorem shot_i (A A' : Option Addr) (c c' B : Nat) (ps : List (Int × Int)) (ss : List (Int × Int × Nat × Int)) (t : Nat) (s i : Int) (w : World) (hv : vp ps = true) (hvs : vs ss = true) (s0 : 0 ≤ s) (s1 : s ≤ 2147483647) (i0 : 0 ≤ i) (i1 : i ≤ 1000000)
    (hr : Rd w B A (ps.length * 2) (pcell ps)) (hr' : Rd w B A' (ss.length * 4) (scell ss)) (hB : B ≤ w.heap.size) :
    Calls Try.prog 128 #[.slice A ps.length c, .slice A' ss.length c', .float .f32 t, .int .i64 s, .int .i64 i] w fun e w' => ∃ A2 c2 l, e = .returned (.slice A2 ps.length c2) ∧ Cn l ps.length (fun k => plus (cs ps ss i k ss.length) (nse s i k t)) ∧
      w'.ownsRow w.heap.size 39 1 (.slice A2 ps.length c2) ps.length (lst (ccell l) ps.length) ∧ w.grownBy w' none := by
  obtain ⟨f0, hi0, hz0, hz1, hz2⟩ := info_parts infoC
  have hl16 := (vp_yes hv).2.1
  have hl4 := vs_len hvs
  have HV := Lib.hid hv
  have HVS := Lib.hid hvs
  have HR := Lib.hid hr
  have HR' := Lib.hid hr'
  clear hv hvs hr hr'
  go_enter Try.func128, Try.ntmps128
  go_wp2_with (at_make; refine wpList_make_full _ rfl _ _ _ rfl w.heap.size 39 f0 (.complex .f32 0 0) 1 Try.underlying42 hi0 hz0 hz1 _ _ _ _ ps.length rfl rfl rfl rfl (by rw [hz2]; omega) (by unfold maxLen; omega) (Nat.le_refl _) ?_; intro w1 hown hg)
  go_loopw [27] (fun q wr => ∃ j : Nat, j ≤ ss.length ∧ q = .int .i64 j ∧ ∃ l, Cn l ps.length (fun k => cs ps ss i k j) ∧ wr.ownsRow w.heap.size 39 1 (.slice (some ⟨w.heap.size, 0, none⟩) ps.length ps.length) ps.length (lst (ccell l) ps.length) ∧ w.grownBy wr none) (fun q _ => ss.length - (intOf q).toNat)
  case atStart =>
    refine ⟨0, Nat.zero_le _, rfl, _, Cn.zero _ _ _ _, ?_, hg⟩
    rw [zeros_cells]
    rw [Nat.mul_one] at hown
    have h := (toList_madeCells_one (.complex .f32 0 0) ps.length) ▸ hown
    simpa using h
  case round =>
    obtain ⟨j, hj, rfl, l, hc, hown, hg⟩ := hrel
    by_cases hjt : j < ss.length
    · obtain ⟨ad, u, v, sd, g, hA', _, hx, hc0, hc1, hc2, hc3⟩ := Rd.four (HR'.out.kept0 hg hB) hjt
      subst hA'
      have hat := vs_at HVS.out hjt
      rw [hx] at hat
      obtain ⟨hd, sd0, sd1⟩ := hat
      have HC := Lib.hid hc
      have HX := Lib.hid hx
      have HD := Lib.hid hd
      have HO := Lib.hid hown
      have HG := Lib.hid hg
      clear hc hx hd hown hg
      go_wp2_with fail
      refine (sym_i _ _ _ sd0 sd1 i0 i1).mono ?_
      rintro e w' ⟨rfl, rfl⟩
      clear hc0 hc1 hc2 hc3
      go_wp2_with fail
      refine (scale_i _ _ _ _).mono ?_
      rintro e w2 ⟨p, q, rfl, hp, hq, g2⟩
      have hpq := inc_can (x := sent sd i g) (a := p) (b := q)
      have HP := Lib.hid hp
      have HQ := Lib.hid hq
      have hal := World.grownBy_alloc wr (.cells #[.int .i64 u, .int .i64 v, .float .f32 g, .int .i64 sd] 37) none
      obtain ⟨⟨b0, b1, b2, b3⟩, _⟩ := cells4 (block1 g2)
      have G2 := Lib.hid (HG.out.trans (hal.trans g2))
      have O2 := Lib.hid (own_kept0 HO.out (hal.trans g2))
      have HINC := Lib.hid (fun (z : Nat × Nat) => inc_can (x := sent sd i g) (a := p) (b := q) z hp hq)
      clear hp hq hal g2 HO HG hpq
      go_wp2_with fail
      refine (pa_impl A c B ps u v _ (HR.out.kept0 G2.out hB) (Nat.le_trans hB G2.out.size) HV.out HD.out).mono ?_
      rintro e w3 ⟨A3, c3, rfl, o3, g3⟩
      have R3 := Lib.hid (Rd.of_lst o3 (Nat.mul_one _).symm)
      have G3 := Lib.hid (G2.out.trans g3)
      have O3 := Lib.hid (own_kept0 O2.out g3)
      have HA3 := Lib.hid (show ∀ b, A3.map Addr.block = some b → w.heap.size < b from fun b hb => Nat.lt_of_lt_of_le (own_base O2.out w.heap.size rfl).2 (own_base o3 b hb).1)
      clear o3 g3 O2 b0 b1 b2 b3
      go_wp2_with fail
      go_loopw [47] (fun y wr => ∃ q : Nat, q ≤ ps.length ∧ y = .int .i64 q ∧ ∃ l, Cn l ps.length (fun k => if k < q then cs ps ss i k (j + 1) else cs ps ss i k j) ∧ wr.ownsRow w.heap.size 39 1 (.slice (some ⟨w.heap.size, 0, none⟩) ps.length ps.length) ps.length (lst (ccell l) ps.length) ∧ Rd wr w3.heap.size A3 ps.length (ccell (stl ps u v)) ∧ w3.heap.size ≤ wr.heap.size ∧ w.grownBy wr none) (fun y _ => ps.length - (intOf y).toNat)
      case atStart => exact ⟨0, Nat.zero_le _, rfl, l, HC.out.congr (fun k _ => by rw [if_neg (by omega)]), O3.out, R3.out, Nat.le_refl _, G3.out⟩
      case round =>
        obtain ⟨q', hq', rfl, l', hc, hown, hR, hs3, hg⟩ := hrel
        by_cases hqt : q' < ps.length
        · obtain ⟨ad3, hA3, hb3, hph⟩ := hR.at_ hqt
          subst hA3
          have hw3 := G3.out.size
          have hsh := hown.cellAt q' (by omega)
          rw [lst_get _ _ _ hqt] at hsh
          have hfr := hown.frozenAt q'
          have hst := stl_at ps u v q' hqt
          have hbd := (steps_bd (ok_at HV.out q' hqt) HD.out).1
          have hfit := fit_all (n := ps[q'].1 * u + ps[q'].2 * v) (sy_half _) (sy_half _) HP.out HQ.out hbd
          rw [← hst] at hfit
          unfold ccell at hph hsh
          obtain ⟨y, hy⟩ : ∃ y, y = l'.getD q' (0, 0) := ⟨_, rfl⟩
          rw [← hy] at hsh
          have hcan := hc.2 q' hqt
          have hcs := cs_step (ps := ps) (i := i) HX.out q'
          dsimp only at hcan
          rw [if_neg (by omega), ← hy] at hcan
          have HM := Lib.hid (fun w => mul_a p q _ _ w hfit.1 hfit.2)
          have HI1 := Lib.hid (HINC.out ((stl ps u v).getD q' (0, 0)))
          have HCS := Lib.hid hcs
          have HCN := Lib.hid hcan
          have HL := Lib.hid hc
          have HO := Lib.hid hown
          have HG := Lib.hid hg
          have HRR := Lib.hid hR
          have k0 : (0 : Int) ≤ q' := by omega
          have k1 : (q' : Int) < ps.length := by omega
          clear hst hbd hfit hcan hcs hc hown hg hR hy
          generalize (stl ps u v).getD q' (0, 0) = z at *
          go_wp2_with fail
          go_region_with (first
            | (go_at_call 32
               refine (HM.out _).mono ?_
               rintro e w5 ⟨r1, r2, rfl, hr1, hr2, hg5⟩
               have hc5 := hg5.cell (show wr.drew.cell? _ = _ from hsh) (by simp)
               have hO5 := own_kept0 (World.ownsRow.drew HO.out) hg5
               have hf5 := hO5.frozenAt q'
               clear hO5))
          all_goals
            have hq1 : can .f32 r1 = (inc (sent sd i g) z).1 := by rw [← HI1.out]; exact hr1
            have hq2 : can .f32 r2 = (inc (sent sd i g) z).2 := by rw [← HI1.out]; exact hr2
            obtain ⟨u1, u2⟩ := plus_can HCN.out.1 HCN.out.2 hq1 hq2 w5 (w5.drewN (fcnt .add .f32 y.1 r1))
            rw [← HCS.out] at u1 u2
            generalize fval .add .f32 w5 y.1 r1 = P1 at *
            generalize fval .add .f32 (w5.drewN (fcnt .add .f32 y.1 r1)) y.2 r2 = P2 at *
            generalize fcnt .add .f32 y.1 r1 + fcnt .add .f32 y.2 r2 = NN at *
            have hgw : wr.grownBy (w5.drewN NN) none := (gb_drewN wr 1 none).trans (World.grownBy.trans hg5 (gb_drewN _ NN none))
            obtain ⟨p1, n1⟩ := (own_kept0 HO.out hgw).stored q' (.complex .f32 P1 P2)
            rw [set_ccell l' ps.length q' hqt HL.out.1 (P1, P2)] at p1
            have HN := Lib.hid ((HL.out.set hqt (x := (P1, P2)) u1 u2).congr (G := fun k => if k < q' + 1 then cs ps ss i k (j + 1) else cs ps ss i k j) (fun k hk => by
              by_cases e : k = q'
              · rw [if_pos e, if_pos (by omega), e]
              · rw [if_neg e]
                by_cases h : k < q'
                · rw [if_pos h, if_pos (by omega)]
                · rw [if_neg h, if_neg (by omega)]))
            have HP1 := Lib.hid p1
            have HR5 := Lib.hid ((HRR.out.kept0 hgw hs3).kept n1 (Nat.le_trans hs3 hgw.size) (fun b hb _ e => by injection e with e; have := HA3.out b hb; omega))
            have HG5 := Lib.hid (gb_new (HG.out.trans hgw) n1 (by intro g e; injection e with e; omega))
            have hs5 := Nat.le_trans hs3 (Nat.le_trans hgw.size n1.size)
            clear hq1 hq2 u1 u2 hgw p1 n1 hr1 hr2 hg5 hc5 hf5 hsh hfr hph
            go_wp2_with fail
            go_roundw
            case rel => exact ⟨q' + 1, by omega, by go_num, _, HN.out, HP1.out, HR5.out, hs5, HG5.out⟩
            case measure => simp [intOf]; omega
        · obtain rfl : q' = ps.length := by omega
          have HN := Lib.hid (hc.congr (G := fun k => cs ps ss i k (j + 1)) (fun k hk => by rw [if_pos hk]))
          clear hc hR
          go_wp2_with fail
          go_roundw
          case rel => exact ⟨j + 1, by omega, by go_num, _, HN.out, hown, hg⟩
          case measure => simp [intOf]; omega
    · obtain rfl : j = ss.length := by omega
      have HC := Lib.hid hc
      have HO := Lib.hid hown
      have HG := Lib.hid hg
      clear hc hown hg
      have HNS := Lib.hid (fun (k : Int) (w : World) (h5 : 0 ≤ k) (h6 : k ≤ 15) => noise_i s i k t w s0 s1 i0 i1 h5 h6)
      go_wp2_with fail
      go_loopw [65] (fun y wr => ∃ q : Nat, q ≤ ps.length ∧ y = .int .i64 q ∧ ∃ l, Cn l ps.length (fun k => if k < q then plus (cs ps ss i k ss.length) (nse s i k t) else cs ps ss i k ss.length) ∧ wr.ownsRow w.heap.size 39 1 (.slice (some ⟨w.heap.size, 0, none⟩) ps.length ps.length) ps.length (lst (ccell l) ps.length) ∧ w.grownBy wr none) (fun y _ => ps.length - (intOf y).toNat)
      case atStart => exact ⟨0, Nat.zero_le _, rfl, l, HC.out.congr (fun k _ => by rw [if_neg (by omega)]), HO.out, HG.out⟩
      case round =>
        obtain ⟨q', hq', rfl, l', hc, hown, hg⟩ := hrel
        by_cases hqt : q' < ps.length
        · have hcan := hc.2 q' hqt
          dsimp only at hcan
          rw [if_neg (by omega)] at hcan
          have HCN := Lib.hid hcan
          have HL := Lib.hid hc
          have HO' := Lib.hid hown
          have HG' := Lib.hid hg
          have k0 : (0 : Int) ≤ q' := by omega
          have k1 : (q' : Int) < ps.length := by omega
          have k2 : (q' : Int) ≤ 15 := by omega
          clear hcan hc hown hg
          go_wp2_with fail
          refine (HNS.out _ _ k0 k2).mono ?_
          rintro e w5 ⟨r1, r2, rfl, hr1, hr2, hg5⟩
          have hO5 := own_kept0 HO'.out hg5
          have hsh := hO5.cellAt q' (by omega)
          rw [lst_get _ _ _ hqt] at hsh
          have hfr := hO5.frozenAt q'
          unfold ccell at hsh
          obtain ⟨y, hy⟩ : ∃ y, y = l'.getD q' (0, 0) := ⟨_, rfl⟩
          rw [← hy] at hsh HCN
          have HR1 := Lib.hid hr1
          have HR2 := Lib.hid hr2
          have HO5 := Lib.hid hO5
          have HG5 := Lib.hid (HG'.out.trans hg5)
          clear hr1 hr2 hO5 hg5 hy HO' HG'
          go_wp2_with fail
          obtain ⟨u1, u2⟩ := plus_can HCN.out.1 HCN.out.2 (y := nse s i q' t) HR1.out HR2.out w5 (w5.drewN (fcnt .add .f32 y.1 r1))
          generalize fval .add .f32 w5 y.1 r1 = P1 at *
          generalize fval .add .f32 (w5.drewN (fcnt .add .f32 y.1 r1)) y.2 r2 = P2 at *
          generalize fcnt .add .f32 y.1 r1 + fcnt .add .f32 y.2 r2 = NN at *
          have hgw : w5.grownBy (w5.drewN NN) none := gb_drewN _ _ none
          obtain ⟨p1, n1⟩ := (own_kept0 HO5.out hgw).stored q' (.complex .f32 P1 P2)
          rw [set_ccell l' ps.length q' hqt HL.out.1 (P1, P2)] at p1
          have HN := (HL.out.set hqt (x := (P1, P2)) (y := plus (cs ps ss i q' ss.length) (nse s i q' t)) u1 u2).congr (G := fun k => if k < q' + 1 then plus (cs ps ss i k ss.length) (nse s i k t) else cs ps ss i k ss.length) (fun k hk => by
            by_cases e : k = q'
            · rw [if_pos e, if_pos (by omega), e]
            · rw [if_neg e]
              by_cases h : k < q'
              · rw [if_pos h, if_pos (by omega)]
              · rw [if_neg h, if_neg (by omega)])
          have hgf := gb_new (HG5.out.trans hgw) n1 (by intro g e; injection e with e; omega)
          refine ⟨⟨q' + 1, by omega, by go_num, _, HN, p1, hgf⟩, ?_⟩
          simp [intOf]; omega
        · obtain rfl : q' = ps.length := by omega
          have HN := Lib.hid (hc.congr (G := fun k => plus (cs ps ss i k ss.length) (nse s i k t)) (fun k hk => by rw [if_pos hk]))
          clear hc
          go_wp2_with fail
          go_ret
          exact ⟨_, _, _, rfl, HN.out, hown, hg⟩

end Go.Proofs.Ytpmjheofjmdfeaa.shot

namespace Go.Proofs.Ytpmjheofjmdfeaa.shotS
open Go.ChangeShapes Go.WideShapes Go.ChangeAt Go.RowKit
open Go.ChangeMaps (open_string shut_string)
set_option linter.unusedVariables false
open Go Ieee Go.RowKit
open Go.Proofs.Ytpmjheofjmdfeaa.slc Go.Proofs.Ytpmjheofjmdfeaa.small Go.Proofs.Ytpmjheofjmdfeaa.opens Go.Proofs.Ytpmjheofjmdfeaa.places Go.Proofs.Ytpmjheofjmdfeaa.floats Go.Proofs.Ytpmjheofjmdfeaa.round Go.Proofs.Ytpmjheofjmdfeaa.values Go.Proofs.Ytpmjheofjmdfeaa.conv Go.Proofs.Ytpmjheofjmdfeaa.fWalk Go.Proofs.Ytpmjheofjmdfeaa.listC Go.Proofs.Ytpmjheofjmdfeaa.listCC Go.Proofs.Ytpmjheofjmdfeaa.steerNum Go.Proofs.Ytpmjheofjmdfeaa.mulAny Go.Proofs.Ytpmjheofjmdfeaa.fitsAny Go.Proofs.Ytpmjheofjmdfeaa.seeds Go.Proofs.Ytpmjheofjmdfeaa.symbol Go.Proofs.Ytpmjheofjmdfeaa.noise Go.Proofs.Ytpmjheofjmdfeaa.sources Go.Proofs.Ytpmjheofjmdfeaa.listSrc Go.Proofs.Ytpmjheofjmdfeaa.srcs Go.Proofs.Ytpmjheofjmdfeaa.steering Go.Proofs.Ytpmjheofjmdfeaa.shot
attribute [local go_sem] run_store_float run_store_complex cadd_any
set_option maxHeartbeats 1600000 in
set_option maxRecDepth 100000 in
theorem shot_s : True := trivial

end Go.Proofs.Ytpmjheofjmdfeaa.shotS

namespace Go.Proofs.Ytpmjheofjmdfeaa.snap
open Go.ChangeShapes Go.WideShapes Go.ChangeAt Go.RowKit
open Go.ChangeMaps (open_string shut_string)
set_option linter.unusedVariables false
open Go Ieee Go.RowKit
open Go.Proofs.Ytpmjheofjmdfeaa.slc Go.Proofs.Ytpmjheofjmdfeaa.small Go.Proofs.Ytpmjheofjmdfeaa.opens Go.Proofs.Ytpmjheofjmdfeaa.places Go.Proofs.Ytpmjheofjmdfeaa.placeSet Go.Proofs.Ytpmjheofjmdfeaa.listC Go.Proofs.Ytpmjheofjmdfeaa.listCC Go.Proofs.Ytpmjheofjmdfeaa.seeds Go.Proofs.Ytpmjheofjmdfeaa.sources Go.Proofs.Ytpmjheofjmdfeaa.srcs Go.Proofs.Ytpmjheofjmdfeaa.shot Go.Proofs.Ytpmjheofjmdfeaa.shotS

def caOk (ps : List (Int × Int)) (ss : List (Int × Int × Nat × Int)) (s : Int) : Bool := vp ps && vs ss && decide (0 ≤ s ∧ s ≤ 2147483647)

set_option maxHeartbeats 800000 in
theorem can_i (A A' : Option Addr) (c c' B : Nat) (ps : List (Int × Int)) (ss : List (Int × Int × Nat × Int)) (s : Int) (w : World) (hm : ps.length ≤ 9223372036854775807) (hm' : ss.length ≤ 9223372036854775807) (hr : Rd w B A (ps.length * 2) (pcell ps)) (hr' : Rd w B A' (ss.length * 4) (scell ss)) (hB : B ≤ w.heap.size) :
    Calls Try.prog 127 #[.slice A ps.length c, .slice A' ss.length c', .int .i64 s] w fun e w' => e = .returned (.bool (caOk ps ss s)) ∧ w.grownBy w' none := by
  have HC := Lib.hid (is_impl A c B ps w hm hr hB)
  have HS := Lib.hid (fun (w1 : World) (g : w.grownBy w1 none) => srcs_impl A' c' B ss w1 hm' (hr'.kept0 g hB) (Nat.le_trans hB g.size))
  clear hr hr'
  cases hv : vp ps
  · have HV := Lib.hid (show caOk ps ss s = false by unfold caOk; rw [hv]; rfl)
    rw [hv] at HC
    clear hv
    go_enter Try.func127, Try.ntmps127
    go_wp2_with fail
    refine HC.out.mono ?_
    rintro e w1 ⟨rfl, g1⟩
    go_wp2_with fail
    go_ret
    exact ⟨ret_bool HV.out.symm, g1⟩
  · cases hs : vs ss
    · have HV := Lib.hid (show caOk ps ss s = false by unfold caOk; rw [hv, hs]; rfl)
      rw [hv] at HC
      rw [hs] at HS
      clear hv hs
      go_enter Try.func127, Try.ntmps127
      go_wp2_with fail
      refine HC.out.mono ?_
      rintro e w1 ⟨rfl, g1⟩
      go_wp2_with fail
      refine (HS.out _ g1).mono ?_
      rintro e w2 ⟨rfl, g2⟩
      go_wp2_with fail
      go_ret
      exact ⟨ret_bool HV.out.symm, g1.trans g2⟩
    · rw [hv] at HC
      rw [hs] at HS
      by_cases hd : 0 ≤ s ∧ s ≤ 2147483647
      · have HV := Lib.hid (show caOk ps ss s = true by unfold caOk; rw [hv, hs, decide_eq_true hd]; rfl)
        obtain ⟨s0, s1⟩ := hd
        clear hv hs
        go_enter Try.func127, Try.ntmps127
        go_wp2_with fail
        refine HC.out.mono ?_
        rintro e w1 ⟨rfl, g1⟩
        go_wp2_with fail
        refine (HS.out _ g1).mono ?_
        rintro e w2 ⟨rfl, g2⟩
        go_wp2_with fail
        refine (seed_yes _ _ s0 s1).mono ?_
        rintro e w' ⟨rfl, rfl⟩
        go_wp2_with fail
        go_ret
        exact ⟨ret_bool HV.out.symm, g1.trans g2⟩
      · have HV := Lib.hid (show caOk ps ss s = false by unfold caOk; rw [hv, hs, decide_eq_false hd]; rfl)
        have HN := Lib.hid (show s < 0 ∨ 2147483647 < s by omega)
        clear hv hs hd
        go_enter Try.func127, Try.ntmps127
        go_wp2_with fail
        refine HC.out.mono ?_
        rintro e w1 ⟨rfl, g1⟩
        go_wp2_with fail
        refine (HS.out _ g1).mono ?_
        rintro e w2 ⟨rfl, g2⟩
        go_wp2_with fail
        refine (seed_no _ _ HN.out).mono ?_
        rintro e w' ⟨rfl, rfl⟩
        go_wp2_with fail
        go_ret
        exact ⟨ret_bool HV.out.symm, g1.trans g2⟩

set_option maxHeartbeats 800000 in
theorem can_s : True := trivial

def soOk (ps : List (Int × Int)) (ss : List (Int × Int × Nat × Int)) (s i : Int) : Bool := caOk ps ss s && decide (0 ≤ i ∧ i ≤ 1000000)
/-- What a snapshot is. -/
def so (ps : List (Int × Int)) (ss : List (Int × Int × Nat × Int)) (t : Nat) (s i : Int) : Nat → Nat × Nat := fun k => plus (cs ps ss i k ss.length) (nse s i k t)
/-- What a function answers. -/
def Sno (F : Nat) (ps : List (Int × Int)) (ss : List (Int × Int × Nat × Int)) (t : Nat) (s i : Int) (n : Nat) (ok : Bool) : Prop :=
  ∀ (A A' : Option Addr) (c c' B : Nat) (w : World), ps.length ≤ 9223372036854775807 → ss.length ≤ 9223372036854775807 → Rd w B A (ps.length * 2) (pcell ps) → Rd w B A' (ss.length * 4) (scell ss) → B ≤ w.heap.size →
    Calls Try.prog F #[.slice A ps.length c, .slice A' ss.length c', .float .f32 t, .int .i64 s, .int .i64 i] w fun e w' => ∃ A'' c'' l, e = .returned (.tuple #[.slice A'' n c'', .bool ok]) ∧ Cn l n (so ps ss t s i) ∧
      w'.ownsRow w.heap.size 39 1 (.slice A'' n c'') n (lst (ccell l) n) ∧ w.grownBy w' none
theorem so_no {F : Nat} {args : Array Value} {G : Nat → Nat × Nat} {w : World} {k : Nat} {ok : Bool} (hok : ok = false)
    (h : Calls Try.prog F args w fun e w' => e = .returned (.tuple #[.slice none 0 0, .bool false]) ∧ w.grownBy w' none) :
    Calls Try.prog F args w fun e w' => ∃ A'' c'' l, e = .returned (.tuple #[.slice A'' (if ok = true then k else 0) c'', .bool ok]) ∧ Cn l (if ok = true then k else 0) G ∧
      w'.ownsRow w.heap.size 39 1 (.slice A'' (if ok = true then k else 0) c'') (if ok = true then k else 0) (lst (ccell l) (if ok = true then k else 0)) ∧ w.grownBy w' none := by
  subst hok
  refine h.mono ?_
  rintro e w' ⟨rfl, hg⟩
  exact ⟨none, 0, [], rfl, ⟨rfl, fun k hk => absurd hk (by simp)⟩, World.ownsRow_nil _ _ _ _, hg⟩
theorem caOk_of {ps : List (Int × Int)} {ss : List (Int × Int × Nat × Int)} {s : Int} (h : caOk ps ss s = true) : vp ps = true ∧ vs ss = true ∧ 0 ≤ s ∧ s ≤ 2147483647 := by
  unfold caOk at h
  rw [Bool.and_eq_true, Bool.and_eq_true] at h
  exact ⟨h.1.1, h.1.2, of_decide_eq_true h.2⟩

set_option maxHeartbeats 800000 in
theorem snap_i (ps : List (Int × Int)) (ss : List (Int × Int × Nat × Int)) (t : Nat) (s i : Int) : Sno 25 ps ss t s i (if soOk ps ss s i = true then ps.length else 0) (soOk ps ss s i) := by
  intro A A' c c' B w hm hm' hr hr' hB
  have HC0 := can_i A A' c c' B ps ss s w hm hm' hr hr' hB
  cases hc : caOk ps ss s
  · refine so_no (by unfold soOk; rw [hc]; rfl) ?_
    rw [hc] at HC0
    have HC := Lib.hid HC0
    clear HC0 hr hr' hc
    go_enter Try.func25, Try.ntmps25
    go_wp2_with fail
    refine HC.out.mono ?_
    rintro e w1 ⟨rfl, g1⟩
    go_wp2_with fail
    go_ret2
    exact ⟨rfl, g1⟩
  · by_cases hi : 0 ≤ i ∧ i ≤ 1000000
    · have hok : soOk ps ss s i = true := by unfold soOk; rw [hc, decide_eq_true hi]; rfl
      rw [hok, if_pos rfl]
      rw [hc] at HC0
      obtain ⟨v1, v2, s0, s1⟩ := caOk_of hc
      obtain ⟨i0, i1⟩ := hi
      have HC := Lib.hid HC0
      have HSH := Lib.hid (fun (w1 : World) (g : w.grownBy w1 none) => shot_i A A' c c' B ps ss t s i w1 v1 v2 s0 s1 i0 i1 (hr.kept0 g hB) (hr'.kept0 g hB) (Nat.le_trans hB g.size))
      clear HC0 hr hr' hc hok v1 v2 s0 s1
      go_enter Try.func25, Try.ntmps25
      go_wp2_with fail
      refine HC.out.mono ?_
      rintro e w1 ⟨rfl, g1⟩
      go_wp2_with fail
      refine (index_yes _ _ i0 i1).mono ?_
      rintro e w' ⟨rfl, rfl⟩
      go_wp2_with fail
      refine (HSH.out _ g1).mono ?_
      rintro e w2 ⟨A2, c2, l, rfl, hl, ho, g2⟩
      have HL := Lib.hid hl
      have HO := Lib.hid (own_mono ho g1.size)
      have HG := Lib.hid (g1.trans g2)
      clear hl ho g1 g2
      go_wp2_with fail
      go_ret2
      exact ⟨_, _, _, rfl, HL.out, HO.out, HG.out⟩
    · refine so_no (by unfold soOk; rw [hc, decide_eq_false hi]; rfl) ?_
      rw [hc] at HC0
      have HC := Lib.hid HC0
      have HN := Lib.hid (show i < 0 ∨ 1000000 < i by omega)
      clear HC0 hr hr' hc hi
      go_enter Try.func25, Try.ntmps25
      go_wp2_with fail
      refine HC.out.mono ?_
      rintro e w1 ⟨rfl, g1⟩
      go_wp2_with fail
      refine (index_no _ _ HN.out).mono ?_
      rintro e w' ⟨rfl, rfl⟩
      go_wp2_with fail
      go_ret2
      exact ⟨rfl, g1⟩

set_option maxHeartbeats 800000 in
theorem snap_s : True := trivial

end Go.Proofs.Ytpmjheofjmdfeaa.snap
