/- Powers of patterns, by the program: what the functions that it makes answer. -/
import Derived.Test.YtpeclgfopincbaaRows
import Derived.Test.YtpeclgfopincbaaSlc
import Derived.Test.YtpeclgfopincbaaSmall
import Derived.Test.YtpeclgfopincbaaOpens
import Derived.Test.YtpeclgfopincbaaPlaceAll
import Derived.Test.YtpeclgfopincbaaSteps
import Derived.Test.YtpeclgfopincbaaFloatAll
import Derived.Test.YtpeclgfopincbaaFWalk
import Derived.Test.YtpeclgfopincbaaFinWalk
import Derived.Test.YtpeclgfopincbaaRoot
import Derived.Test.YtpeclgfopincbaaFlAll
import Derived.Test.YtpeclgfopincbaaPhasor
import Derived.Test.YtpeclgfopincbaaListC
import Derived.Test.YtpeclgfopincbaaListCC
import Derived.Test.YtpeclgfopincbaaSteerNum
import Derived.Test.YtpeclgfopincbaaSineIn
import Derived.Test.YtpeclgfopincbaaPolyNum
import Derived.Test.YtpeclgfopincbaaPolyW
import Derived.Test.YtpeclgfopincbaaPoly1
import Derived.Test.YtpeclgfopincbaaPoly2
import Derived.Test.YtpeclgfopincbaaGAll
import Derived.Test.YtpeclgfopincbaaPowW
import Derived.Test.YtpeclgfopincbaaPolyD
import Derived.Test.YtpeclgfopincbaaSteering
import Derived.Test.YtpeclgfopincbaaDotC
import Derived.WalkKit
import Derived.ProofKit
import Derived.OpenShut
import Derived.ShutString
import Derived.ChangeOld
import Derived.Below
import Derived.Lib.Hide
import Derived.BigQuiet
import Derived.Deep.QuietTactic
import Derived.WalkLawsBesides
import Derived.Outline
import Derived.RangeFuncBox
import Derived.Deep.LoopGhost
import Derived.Deep.RegionHeld3
import Derived.Deep.RegionWith
import Derived.Laws.ComplexArith
import Derived.StillTailTactics
namespace Go.Proofs.Ytpeclgfopincbaa.pat
open Go.ChangeShapes Go.WideShapes Go.ChangeAt Go.RowKit
open Go.ChangeMaps (open_string shut_string)
set_option linter.unusedVariables false
open Go Ieee Go.RowKit
open Go.Proofs.Ytpeclgfopincbaa.phasor Go.Proofs.Ytpeclgfopincbaa.slc Go.Proofs.Ytpeclgfopincbaa.small Go.Proofs.Ytpeclgfopincbaa.opens Go.Proofs.Ytpeclgfopincbaa.places Go.Proofs.Ytpeclgfopincbaa.placeSet Go.Proofs.Ytpeclgfopincbaa.floats Go.Proofs.Ytpeclgfopincbaa.round Go.Proofs.Ytpeclgfopincbaa.values Go.Proofs.Ytpeclgfopincbaa.conv Go.Proofs.Ytpeclgfopincbaa.listC Go.Proofs.Ytpeclgfopincbaa.listCC Go.Proofs.Ytpeclgfopincbaa.steerNum Go.Proofs.Ytpeclgfopincbaa.sineIn Go.Proofs.Ytpeclgfopincbaa.polyNum Go.Proofs.Ytpeclgfopincbaa.polyW Go.Proofs.Ytpeclgfopincbaa.poly2 Go.Proofs.Ytpeclgfopincbaa.gNum Go.Proofs.Ytpeclgfopincbaa.rq Go.Proofs.Ytpeclgfopincbaa.powW Go.Proofs.Ytpeclgfopincbaa.polyD Go.Proofs.Ytpeclgfopincbaa.steering Go.Proofs.Ytpeclgfopincbaa.dotC

theorem sw31 : single.signWeight = 2 ^ 31 := by decide +kernel
theorem neg_parts (b : Nat) : rg single (Op.negFloat .f32 b) = rg single b ∧ sgn single (Op.negFloat .f32 b) = !sgn single b := by
  have e : Op.negFloat .f32 b = b ^^^ 2 ^ 31 := rfl
  unfold rg sgn
  rw [e, sw31, Nat.xor_mod_two_pow, Nat.mod_self, Nat.xor_zero]
  refine ⟨rfl, ?_⟩
  have h1 : (b ^^^ 2 ^ 31) / 2 ^ 31 = b / 2 ^ 31 ^^^ 1 := by rw [Nat.xor_div_two_pow]
  have h2 : (b / 2 ^ 31 ^^^ 1) % 2 = (b / 2 ^ 31 % 2) ^^^ 1 := by
    have := Nat.xor_mod_two_pow (a := b / 2 ^ 31) (b := 1) (n := 1)
    simpa using this
  rw [h1, h2]
  have hm : b / 2 ^ 31 % 2 = 0 ∨ b / 2 ^ 31 % 2 = 1 := by omega
  rcases hm with h | h <;> rw [h] <;> try rfl
theorem neg_bs {b e : Nat} (h : Bs b e) : Bs (Op.negFloat .f32 b) e := by
  obtain ⟨h1, h2⟩ := neg_parts b
  have hV : V single (Op.negFloat .f32 b) = -V single b := by unfold V; rw [h1, h2, sg_not]
  exact ⟨by unfold values.FinW; rw [h1]; exact h.1, by rw [hV, Int.natAbs_neg]; exact h.2⟩
/-- Weights with numbers of at most 2. -/
def Wk (l : List (Nat × Nat)) : Prop := ∀ x ∈ l, Cb x 1
theorem Wk.at {l : List (Nat × Nat)} (h : Wk l) {k : Nat} (hk : k < l.length) : Cb ((l.map cj).getD k (0, 0)) 1 := by
  have e : (l.map cj).getD k (0, 0) = cj l[k] := by simp [List.getD, hk]
  have := h _ (List.getElem_mem hk)
  rw [e]
  exact ⟨this.1, neg_bs this.2⟩
theorem stl_cb (ps : List (Int × Int)) (u v : Int) (hv : vp ps = true) (hd : dirB u v = true) (q : Nat) (hq : q < ps.length) : Cb ((stl ps u v).getD q (0, 0)) 5 := by
  have e : (stl ps u v).getD q (0, 0) = phz (ps[q].1 * u + ps[q].2 * v) := by simp [stl, List.getD, hq]
  rw [e]
  exact phz_in _ (steps_bd (ok_at hv q hq) hd).1
/-- The pattern of weights at a direction. -/
def ptn (ps : List (Int × Int)) (l : List (Nat × Nat)) (u v : Int) : Nat × Nat := dsum (l.map cj) (stl ps u v) ps.length
theorem zero_bs : Bs 0 7 := by
  refine ⟨?_, ?_⟩
  · unfold values.FinW; decide +kernel
  · have : V single 0 = 0 := by decide +kernel
    rw [this]; exact Nat.zero_le _
theorem ptn_ok {ps : List (Int × Int)} {l : List (Nat × Nat)} {u v : Int} (hl : l.length = ps.length) (hw : Wk l) (hv : vp ps = true) (hd : dirB u v = true) :
    DotOk (l.map cj) (stl ps u v) ps.length ∧ Cb (ptn ps l u v) 23 := by
  have h16 := (vp_yes hv).2.1
  have hm : ∀ k, k < ps.length → MulOk ((l.map cj).getD k (0, 0)) ((stl ps u v).getD k (0, 0)) ∧ Cb (mulw ((l.map cj).getD k (0, 0)) ((stl ps u v).getD k (0, 0))) 7 := fun k hk => mul_ok (hw.at (by omega)) (stl_cb ps u v hv hd k hk) (by omega)
  have hs : ∀ k, k ≤ ps.length → Cb (dsum (l.map cj) (stl ps u v) k) (7 + k) := by
    intro k
    induction k with
    | zero => intro _; exact ⟨zero_bs, zero_bs⟩
    | succ k ih =>
      intro hk
      have h0 := ih (by omega)
      have h1 := (hm k (by omega)).2
      exact ⟨(add32 h0.1 (h1.1.mono (by omega)) (by omega)).2.1, (add32 h0.2 (h1.2.mono (by omega)) (by omega)).2.1⟩
  refine ⟨fun k hk => ⟨(hm k hk).1, ?_, ?_⟩, ?_⟩
  · exact (add32 (hs k (by omega)).1 ((hm k hk).2.1.mono (by omega)) (by omega)).1
  · exact (add32 (hs k (by omega)).2 ((hm k hk).2.2.mono (by omega)) (by omega)).1
  · have := hs ps.length (Nat.le_refl _)
    exact ⟨this.1.mono (by omega), this.2.mono (by omega)⟩
/-- The power at a direction. -/
def pwd (ps : List (Int × Int)) (l : List (Nat × Nat)) (u v : Int) : Nat := nw (pwW (ptn ps l u v))
theorem pwd_bs {ps : List (Int × Int)} {l : List (Nat × Nat)} {u v : Int} (hl : l.length = ps.length) (hw : Wk l) (hv : vp ps = true) (hd : dirB u v = true) : Bs (pwd ps l u v) 47 := by
  obtain ⟨_, hc⟩ := ptn_ok hl hw hv hd
  obtain ⟨_, hb, _⟩ := pow_ok hc (by omega)
  exact (nw_is hb (by omega)).2

/-- A function in the block b that answers powers. -/
def Pf (w : World) (b : Nat) (A A' : Option Addr) (n c c' : Nat) : Prop := ∃ b1 b2, w.cell? ⟨b, 0, none⟩ = some (.func (.func 200) #[] #[.pointer (some ⟨b2, 0, none⟩), .pointer (some ⟨b1, 0, none⟩)]) ∧
  w.cell? ⟨b1, 0, none⟩ = some (.slice A n c) ∧ w.cell? ⟨b2, 0, none⟩ = some (.slice A' n c')
theorem Pf.kept0 {w w' : World} {b : Nat} {A A' : Option Addr} {n c c' : Nat} (h : Pf w b A A' n c c') (hg : w.grownBy w' none) : Pf w' b A A' n c c' := by
  obtain ⟨b1, b2, h1, h2, h3⟩ := h
  exact ⟨b1, b2, hg.cell h1 (by simp), hg.cell h2 (by simp), hg.cell h3 (by simp)⟩
theorem run_store_func {P : Program} {w : World} {md : Mode} (a : Addr) (f : Fn) (x : Array Value) (y : Array Value) : (store a (.func f x y) md).run P w = stored P w a (.func f x y) md := run_store P w a _ md rfl
attribute [local go_sem] run_store_func
theorem box_cell (w : World) (v : Value) (t : TypeId) : (w.alloc (.cells #[v] t)).cell? ⟨w.heap.size, 0, none⟩ = some v := cell_of_row _ _ 0 _ _ _ (heap_alloc_new w _)
set_option maxHeartbeats 1600000 in
theorem patof (A A' : Option Addr) (c c' B : Nat) (ps : List (Int × Int)) (w : World) (hv : vp ps = true) (hr : Rd w B A (ps.length * 2) (pcell ps)) (hB : B ≤ w.heap.size) :
    Calls Try.prog 97 #[.slice A ps.length c, .slice A' ps.length c'] w fun e w' => ∃ b, e = .returned (.tuple #[.func (.func 173) #[] #[.pointer (some ⟨b, 0, none⟩)], .bool true]) ∧
      w.heap.size ≤ b ∧ Pf w' b A A' ps.length c c' ∧ w.grownBy w' none := by
  have hm := (vp_yes hv).2.1
  have g0 : w.grownBy ((w.alloc (.cells #[.slice A ps.length c] 24)).alloc (.cells #[.slice A' ps.length c'] 26)) none := (World.grownBy_alloc w _ none).trans (World.grownBy_alloc _ _ none)
  have HC := Lib.hid (is_impl A c B ps _ (by omega) (hr.kept0 g0 hB) (Nat.le_trans hB g0.size))
  rw [hv] at HC
  clear hr
  go_enter Try.func97, Try.ntmps97
  go_wp2_with fail
  go_enter Try.func147, Try.ntmps147
  go_wp2_with fail
  refine HC.out.mono ?_
  rintro e w1 ⟨rfl, g1⟩
  have h1 := g1.cell (show ((w.alloc (.cells #[.slice A ps.length c] 24)).alloc (.cells #[.slice A' ps.length c'] 26)).cell? ⟨w.heap.size, 0, none⟩ = some (.slice A ps.length c) from (World.grownBy_alloc _ _ none).cell (box_cell w _ _) (by simp)) (by simp)
  have h2 := g1.cell (show ((w.alloc (.cells #[.slice A ps.length c] 24)).alloc (.cells #[.slice A' ps.length c'] 26)).cell? ⟨w.heap.size + 1, 0, none⟩ = some (.slice A' ps.length c') from by
    have := box_cell (w.alloc (.cells #[.slice A ps.length c] 24)) (.slice A' ps.length c') 26
    rw [show (w.alloc (.cells #[.slice A ps.length c] 24)).heap.size = w.heap.size + 1 by simp] at this
    exact this) (by simp)
  have hs1 := g1.size
  have G1 := Lib.hid (g0.trans g1)
  clear HC g1 g0
  go_wp2_with fail
  refine bodyPost_ret (v := .tuple #[.func (.func 173) #[] #[.pointer (some ⟨w1.heap.size, 0, none⟩)], .bool true]) (by simp [results, Try.results97]) rfl ?_
  have hs : w.heap.size + 1 + 1 ≤ w1.heap.size := by simpa using hs1
  have ga := World.grownBy_alloc w1 (.cells #[.func (.func 200) #[] #[.pointer (some ⟨w.heap.size + 1, 0, none⟩), .pointer (some ⟨w.heap.size, 0, none⟩)]] 158) none
  exact ⟨_, rfl, by omega, ⟨w.heap.size, w.heap.size + 1, box_cell w1 _ _, ga.cell h1 (by simp), ga.cell h2 (by simp)⟩, G1.out.trans ga⟩

set_option maxHeartbeats 1600000 in
theorem pat_call (b1 b2 : Nat) (A A' : Option Addr) (c c' B : Nat) (ps : List (Int × Int)) (l : List (Nat × Nat)) (u v : Int) (w : World) (hv : vp ps = true) (hd : dirB u v = true) (hl : l.length = ps.length) (hw : Wk l) (hr : Rd w B A (ps.length * 2) (pcell ps)) (hr' : Rd w B A' ps.length (ccell l)) (hB : B ≤ w.heap.size)
    (h1 : w.cell? ⟨b1, 0, none⟩ = some (.slice A ps.length c)) (h2 : w.cell? ⟨b2, 0, none⟩ = some (.slice A' ps.length c')) :
    Calls Try.prog 200 #[.agg #[.int .i64 u, .int .i64 v], .pointer (some ⟨b2, 0, none⟩), .pointer (some ⟨b1, 0, none⟩)] w fun e w' => e = .returned (.complex .f32 (ptn ps l u v).1 (ptn ps l u v).2) ∧ w.grownBy w' none := by
  have ga := World.grownBy_alloc w (.cells #[.int .i64 u, .int .i64 v] 36) none
  have h1' := ga.cell h1 (by simp)
  have h2' := ga.cell h2 (by simp)
  have h16 := (vp_yes hv).2.1
  have HP := Lib.hid (fun (w1 : World) (g : w.grownBy w1 none) => pa_impl A c B ps u v w1 (hr.kept0 g hB) (Nat.le_trans hB g.size) hv hd)
  have hok := (ptn_ok hl hw hv hd).1
  have HD := Lib.hid (fun (A2 : Option Addr) (c2 B' : Nat) (w2 : World) (g2 : w.grownBy w2 none) (hBB : B ≤ B') (h : Rd w2 B' A2 ps.length (ccell (stl ps u v))) (hB' : B' ≤ w2.heap.size) => dotc_impl A' A2 c' c2 B' ps.length l (stl ps u v) w2 hl (by simp [stl]) h16 hok ((hr'.kept0 g2 hB).mono hBB) h hB')
  clear hr hr' hok hw hv h1 h2
  go_enter Try.func200, Try.ntmps200
  have HG := Lib.hid (ga.trans (gb_drewN _ 1 none))
  go_wp2_with fail
  go_region_with (first
    | (go_at_call 146
       refine (HP.out _ HG.out).mono ?_
       rintro e w2 ⟨A2, c2, rfl, ho, hg⟩
       have g2 := World.grownBy.trans HG.out hg
       have h22 := hg.cell (show (w.alloc (.cells #[.int .i64 u, .int .i64 v] 36)).drew.cell? ⟨b2, 0, none⟩ = _ from h2') (by simp)
       have HD2 := Lib.hid (HD.out A2 c2 w2.heap.size w2 g2 (Nat.le_trans hB g2.size) (Rd.of_lst ho (Nat.mul_one _).symm) (Nat.le_refl _))
       have G2 := Lib.hid g2
       clear ho hg g2)
    | (go_at_call 91
       refine HD2.out.mono ?_
       rintro e w3 ⟨rfl, hg3⟩))
  all_goals
    go_wp2_with fail
    go_ret
    exact ⟨rfl, G2.out.trans hg3⟩

set_option maxHeartbeats 1600000 in
theorem pf_call (b : Nat) (A A' : Option Addr) (c c' B : Nat) (ps : List (Int × Int)) (l : List (Nat × Nat)) (u v : Int) (w : World) (hv : vp ps = true) (hd : dirB u v = true) (hl : l.length = ps.length) (hw : Wk l) (hr : Rd w B A (ps.length * 2) (pcell ps)) (hr' : Rd w B A' ps.length (ccell l)) (hB : B ≤ w.heap.size)
    (hf : Pf w b A A' ps.length c c') :
    Calls Try.prog 173 #[.agg #[.int .i64 u, .int .i64 v], .pointer (some ⟨b, 0, none⟩)] w fun e w' => e = .returned (.float .f32 (pwd ps l u v)) ∧ w.grownBy w' none := by
  have ga := World.grownBy_alloc w (.cells #[.int .i64 u, .int .i64 v] 36) none
  obtain ⟨b1, b2, h1, h2, h3⟩ := hf.kept0 ga
  have HP := Lib.hid (pat_call b1 b2 A A' c c' B ps l u v _ hv hd hl hw (hr.kept0 ga hB) (hr'.kept0 ga hB) (Nat.le_trans hB ga.size) h2 h3)
  have HPW := Lib.hid (fun w2 : World => powerOf_c (ptn_ok hl hw hv hd).2 (by omega) w2)
  clear hr hr' hw hv h2 h3 hf
  go_enter Try.func173, Try.ntmps173
  go_wp2_with fail
  refine HP.out.mono ?_
  rintro e w2 ⟨rfl, hg2⟩
  go_wp2_with fail
  refine (HPW.out _).mono ?_
  rintro e w' ⟨rfl, rfl⟩
  go_wp2_with fail
  go_ret
  exact ⟨rfl, ga.trans hg2⟩

end Go.Proofs.Ytpeclgfopincbaa.pat
