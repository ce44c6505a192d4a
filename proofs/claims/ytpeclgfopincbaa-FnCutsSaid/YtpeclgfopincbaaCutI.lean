/- CutOf by the program. -/
import Derived.Test.YtpeclgfopincbaaRows
import Derived.Test.YtpeclgfopincbaaSlc
import Derived.Test.YtpeclgfopincbaaSmall
import Derived.Test.YtpeclgfopincbaaOpens
import Derived.Test.YtpeclgfopincbaaPlaceAll
import Derived.Test.YtpeclgfopincbaaSteps
import Derived.Test.YtpeclgfopincbaaFloatAll
import Derived.Test.YtpeclgfopincbaaFWalk
import Derived.Test.YtpeclgfopincbaaFinWalk
import Derived.Test.YtpeclgfopincbaaRoot
import Derived.Test.YtpeclgfopincbaaFlAll
import Derived.Test.YtpeclgfopincbaaPhasor
import Derived.Test.YtpeclgfopincbaaListC
import Derived.Test.YtpeclgfopincbaaListCC
import Derived.Test.YtpeclgfopincbaaSteerNum
import Derived.Test.YtpeclgfopincbaaSineIn
import Derived.Test.YtpeclgfopincbaaPolyNum
import Derived.Test.YtpeclgfopincbaaPolyW
import Derived.Test.YtpeclgfopincbaaPoly1
import Derived.Test.YtpeclgfopincbaaPoly2
import Derived.Test.YtpeclgfopincbaaGAll
import Derived.Test.YtpeclgfopincbaaPowW
import Derived.Test.YtpeclgfopincbaaPolyD
import Derived.Test.YtpeclgfopincbaaSteering
import Derived.Test.YtpeclgfopincbaaDotC
import Derived.Test.YtpeclgfopincbaaPat
import Derived.Test.YtpeclgfopincbaaSkyNum
import Derived.Test.YtpeclgfopincbaaSkySeq
import Derived.Test.YtpeclgfopincbaaSkyI
import Derived.Test.YtpeclgfopincbaaCutSeq
import Derived.Test.YtpeclgfopincbaaCut
import Derived.Test.YtpeclgfopincbaaListF
import Derived.WalkKit
import Derived.ProofKit
import Derived.OpenShut
import Derived.ShutString
import Derived.ChangeOld
import Derived.Below
import Derived.Lib.Hide
import Derived.BigQuiet
import Derived.Deep.QuietTactic
import Derived.WalkLawsBesides
import Derived.Outline
import Derived.RangeFuncNested
import Derived.RangeFuncKeeps
import Derived.RangeFuncLeaves
import Derived.RangeFuncCalls
import Derived.Shelf.Abstract
import Derived.Shelf.RegionOpen
import Derived.TacticsIn
import Derived.RegionIn
import Derived.OwnWalkIn
import Derived.TacticsInMore
import Derived.LoopNIn
import Derived.LoopIn
import Derived.RangeFuncBox
import Derived.Deep.LoopGhost
import Derived.Deep.RegionHeld3
import Derived.Deep.RegionWith
import Derived.Laws.ComplexArith
import Derived.StillTailTactics
namespace Go.Proofs.Ytpeclgfopincbaa.cutI
open Go.ChangeShapes Go.WideShapes Go.ChangeAt Go.RowKit
open Go.ChangeMaps (open_string shut_string)
set_option linter.unusedVariables false
open Go Ieee Go.RowKit Go.Shelf
open Go.Proofs.Ytpeclgfopincbaa.slc Go.Proofs.Ytpeclgfopincbaa.small Go.Proofs.Ytpeclgfopincbaa.opens Go.Proofs.Ytpeclgfopincbaa.places Go.Proofs.Ytpeclgfopincbaa.placeSet Go.Proofs.Ytpeclgfopincbaa.listC Go.Proofs.Ytpeclgfopincbaa.steerNum Go.Proofs.Ytpeclgfopincbaa.phase Go.Proofs.Ytpeclgfopincbaa.phasor Go.Proofs.Ytpeclgfopincbaa.polyNum Go.Proofs.Ytpeclgfopincbaa.pat Go.Proofs.Ytpeclgfopincbaa.skyNum Go.Proofs.Ytpeclgfopincbaa.skySeq Go.Proofs.Ytpeclgfopincbaa.skyI Go.Proofs.Ytpeclgfopincbaa.cutSeq Go.Proofs.Ytpeclgfopincbaa.polyW Go.Proofs.Ytpeclgfopincbaa.sine Go.Proofs.Ytpeclgfopincbaa.float2 Go.Proofs.Ytpeclgfopincbaa.float3 Go.Proofs.Ytpeclgfopincbaa.listF

theorem run_store_slice {P : Program} {w : World} {m : Mode} (a : Addr) (A : Option Addr) (n c : Nat) : (store a (.slice A n c) m).run P w = stored P w a (.slice A n c) m := run_store P w a _ m rfl
attribute [local go_sem] Oper.semAt_some encd run_store_func run_store_slice
/-- The powers of directions, as cells. -/
def pcs (P : Int → Int → Nat) (L : List (Int × Int)) : List Value := L.map fun d => .float .f32 (P d.1 d.2)
theorem pcs_snoc (P : Int → Int → Nat) (L : List (Int × Int)) (d : Int × Int) : pcs P (L ++ [d]) = pcs P L ++ [.float .f32 (P d.1 d.2)] := by simp [pcs]
theorem row_slice {W : World} {base : Nat} {e : TypeId} {size : Nat} {v : Value} {k : Nat} {xs : List Value} (h : W.ownsRow base e size v k xs) : ∃ A c, v = .slice A k c := by
  rcases h.2 with ⟨rfl, rfl⟩ | ⟨g, cap, _, rfl, _⟩
  · exact ⟨_, _, rfl⟩
  · exact ⟨_, _, rfl⟩
theorem k3_t (D1 D2 D3 : Nat) {A B C : World} (h : K3 D1 D2 D3 A B) (k : K3 D1 D2 D3 B C) : K3 D1 D2 D3 A C := ⟨kd_t _ h.1 k.1, kd_t _ h.2.1 k.2.1, kd_t _ h.2.2 k.2.2⟩
theorem k3_b (D1 D2 D3 : Nat) (w : World) (h1 : D1 < w.heap.size) (h2 : D2 < w.heap.size) (h3 : D3 < w.heap.size) (W : World) (l : Nat) (o o' : Obj) (hl : w.heap.size ≤ l) (g : W.heap[l]? = some o) (a : o.isCells = false) (b : o.isWalk = false) : K3 D1 D2 D3 W (W.putObj l o') :=
  ⟨kd_b _ w h1 W l o o' hl g a b, kd_b _ w h2 W l o o' hl g a b, kd_b _ w h3 W l o o' hl g a b⟩
theorem k3_g {D1 D2 D3 : Nat} {A B : World} (h : A.grownBy B none) : K3 D1 D2 D3 A B := ⟨fun v e => h.cell e (by simp), fun v e => h.cell e (by simp), fun v e => h.cell e (by simp)⟩
theorem k3_below {D1 D2 D3 n : Nat} {A B : World} (h1 : D1 < n) (h2 : D2 < n) (h3 : D3 < n) (h : Below n A B) : K3 D1 D2 D3 A B :=
  ⟨fun v e => (h.cell (p := ⟨D1, 0, none⟩) h1).trans e, fun v e => (h.cell (p := ⟨D2, 0, none⟩) h2).trans e, fun v e => (h.cell (p := ⟨D3, 0, none⟩) h3).trans e⟩
theorem row_low {W : World} {b b' : Nat} {e : TypeId} {size : Nat} {v : Value} {k : Nat} {xs : List Value} (h : W.ownsRow b e size v k xs) (hb : b' ≤ b) : W.ownsRow b' e size v k xs :=
  ⟨h.1, h.2.imp id (fun ⟨g, cap, cur, e1, e2, e3⟩ => ⟨g, cap, cur, e1, Nat.le_trans hb e2, e3⟩)⟩
theorem row_kept0 {W W' : World} {b : Nat} {e : TypeId} {size : Nat} {v : Value} {k : Nat} {xs : List Value} (h : W.ownsRow b e size v k xs) (hg : W.grownBy W' none) : W'.ownsRow b e size v k xs := by
  refine h.kept hg ?_
  by_cases hv : v.ownBlock = none
  · exact .inl hv
  · exact .inr hv
/-- append, told apart: the walk is not to lay it open. -/
def appS (ats : Array TypeId) (ty : TypeId) (args : Array Value) : Sem Value := Builtin.append_ ats ty args
theorem app_stop (ats : Array TypeId) (ty : TypeId) (args : Array Value) : Builtin.append_ ats ty args = appS ats ty args := rfl
/-- One number more in a slice that a box holds. -/
theorem app_at {W w5 : World} {n0 Bx : Nat} {A3 : Option Addr} {k c3 : Nat} {xs : List Value} (p : Nat) (i0 : TypeInfo) (hi0 : Try.prog.info? 29 = some i0) (hz0 : i0.zero = some (.float .f32 0)) (hz1 : i0.size = 1) (hz2 : i0.bytes = 4)
    (h1 : Boxed W Bx 39 (.slice A3 k c3)) (h2 : W.ownsRow n0 29 1 (.slice A3 k c3) k xs) (hn : n0 ≤ W.heap.size) (hB : n0 ≤ Bx) (hk : k < 100000) (gd : W.grownBy w5 none) :
    ∃ A6 c6 w6, (appS #[39, 39] 39 #[.slice A3 k c3, .slice (some ⟨w5.heap.size, 0, none⟩) 1 1]).run Try.prog (w5.alloc (.cells #[.float .f32 p] 29)) = .ok (.slice A6 (k + 1) c6) w6 ∧
      w5.cell? ⟨Bx, 0, none⟩ = some (.slice A3 k c3) ∧ (w5.alloc (.cells #[.float .f32 p] 29)).cell? ⟨Bx, 0, none⟩ = some (.slice A3 k c3) ∧ w6.cell? ⟨Bx, 0, none⟩ = some (.slice A3 k c3) ∧ w6.frozen? ⟨Bx, 0, none⟩ = false ∧
      Boxed (w6.setCell ⟨Bx, 0, none⟩ (.slice A6 (k + 1) c6)) Bx 39 (.slice A6 (k + 1) c6) ∧ (w6.setCell ⟨Bx, 0, none⟩ (.slice A6 (k + 1) c6)).ownsRow n0 29 1 (.slice A6 (k + 1) c6) (k + 1) (xs ++ [.float .f32 p]) ∧
      KeepsOthers w5 (w6.setCell ⟨Bx, 0, none⟩ (.slice A6 (k + 1) c6)) ∧ Below n0 w5 (w6.setCell ⟨Bx, 0, none⟩ (.slice A6 (k + 1) c6)) := by
  have b1 := h1.kept gd (by simp)
  have b2 := row_kept0 h2 gd
  have hs5 := Nat.le_trans hn gd.size
  obtain ⟨v6, w6, hrun, r1, r2, _⟩ := run_append_own (P := Try.prog) (w5.alloc (.cells #[.float .f32 p] 29)) n0 39 39 29 i0 (.float .f32 0) 1 4 Try.underlying39 hi0 hz0 hz1 hz2 rfl (by decide) _ _ _ (b2.alloc _) ⟨w5.heap.size, 0, none⟩ 1 1 [.float .f32 p] rfl (cell_one_new _ _ _) (by simp [Value.oneCell']) (by unfold maxLen; omega) (by omega) (by simp; omega)
  obtain ⟨A6, c6, rfl⟩ := row_slice r1
  obtain ⟨z1, z2, z3, z4, z5⟩ := b1.appended (by decide) b2 hs5 hB r1 r2
  exact ⟨A6, c6, w6, hrun, b1.cell, (b1.alloc _).cell, z1.cell, z1.frozen, z2, z3, z4, z5⟩
attribute [local go_sem ↓] app_stop
set_option maxRecDepth 100000 in
set_option maxHeartbeats 2000000 in
theorem cut_i (A A' : Option Addr) (c c' B : Nat) (ps : List (Int × Int)) (l : List (Nat × Nat)) (a v : Int) (m : Nat) (w : World) (hm : m ≤ 128) (ha : -64 ≤ a) (hb : a + (m : Int) ≤ 64) (hd : ∀ i : Nat, i ≤ m → dirB (a + (i : Int)) v = true)
    (hv : vp ps = true) (hl : l.length = ps.length) (hw : Wk l) (hr : Rd w B A (ps.length * 2) (pcell ps)) (hr' : Rd w B A' ps.length (ccell l)) (hB : B ≤ w.heap.size) :
    Calls Try.prog 23 #[.slice A ps.length c, .slice A' ps.length c', .int .i64 v, .int .i64 a, .int .i64 (a + (m : Int))] w fun e w' => ∃ A3 c3, e = .returned (.tuple #[.slice A3 (m + 1) c3, .bool true]) ∧
      w'.ownsRow w.heap.size 29 1 (.slice A3 (m + 1) c3) (m + 1) (pcs (pwd ps l) (cutL a v (m + 1))) ∧ w.grownBy w' none := by
  have HP := Lib.hid (fun (w1 : World) (g : w.grownBy w1 none) => patof A A' c c' B ps w1 hv (hr.kept0 g hB) (Nat.le_trans hB g.size))
  have HF := Lib.hid (fun (b : Nat) (u v : Int) (hd : dirB u v = true) (w1 : World) (g : w.grownBy w1 none) (h : Pf w1 b A A' ps.length c c') => pf_call b A A' c c' B ps l u v w1 hv hd hl hw (hr.kept0 g hB) (hr'.kept0 g hB) (Nat.le_trans hB g.size) h)
  have HDR := Lib.hid (fun w1 : World => cut_dirs v a (a + (m : Int)) w1 (by omega) (by have := hd 0 (by omega); simpa using this) (hd m (Nat.le_refl _)))
  have HSQ := Lib.hid (fun (D1 D2 D3 : Nat) (w1 : World) => cut_seq a v m D1 D2 D3 w1 hm ha hb hd)
  obtain ⟨i0, hi0, hz0, hz1, hz2⟩ := info_parts info32
  clear hr hr' hv hw hd hl
  generalize pwd ps l = P at *
  refine (callsIn_wide (n := 5)).1 ?_
  refine callsIn_of_wp_marks Try.func23 rfl trivial ?_ rfl
  simp only [Try.ntmps23, List.size_toArray, List.length_cons, List.length_nil, Nat.reduceAdd, Nat.reduceSub, Array.replicate_succ, Array.replicate_zero, List.push_toArray, List.append_toArray, List.nil_append, List.cons_append]
  have hmx : Try.prog.follows .mixedOrders = true := by kernel_rfl
  gi_wp2
  refine ⟨trivial, (callsIn_wide.2 (HP.out _ (World.grownBy.refl _ _))).mono ?_⟩
  rintro e w1 ⟨b, rfl, hbb, hf, g1⟩
  gi_wp2
  have ga := World.grownBy_alloc w1 (.cells #[.func (.func 173) #[] #[.pointer (some ⟨b, 0, none⟩)]] 115) none
  have bx := Boxed.new w1 115 (.func (.func 173) #[] #[.pointer (some ⟨b, 0, none⟩)])
  refine ⟨trivial, (callsIn_wide.2 (HDR.out _)).mono ?_⟩
  rintro e w2 ⟨D1, D2, D3, rfl, l1, l2, l3, q1, q2, q3, g2⟩
  have bx2 := bx.kept g2 (by simp)
  have hf2 := hf.kept0 (ga.trans g2)
  have G2 := g1.trans (ga.trans g2)
  have hsz : w1.heap.size + 1 ≤ w2.heap.size := by have := g2.size; rwa [World.size_alloc] at this
  have y1 := World.block_lt_of_cell? w2 _ q1
  have y2 := World.block_lt_of_cell? w2 _ q2
  have y3 := World.block_lt_of_cell? w2 _ q3
  clear bx hf g1 ga g2 l1 l2 l3 HDR HP
  gi_wp2
  have HQ := HSQ.out D1 D2 D3 (w2.alloc (.cells #[.slice none 0 0] 39)) ((World.grownBy_alloc _ _ none).cell q1 (by simp)) ((World.grownBy_alloc _ _ none).cell q2 (by simp)) ((World.grownBy_alloc _ _ none).cell q3 (by simp))
  refine wpIn_rangeFunc_ownH rfl (by omega) (gf := 179) (lb := #[.pointer (some ⟨D1, 0, none⟩), .pointer (some ⟨D2, 0, none⟩), .pointer (some ⟨D3, 0, none⟩)]) rfl trivial (enters_of Try.func179 (by kernel_rfl) rfl) HQ (k3_t _ _ _) (k3_b _ _ _ _ (by simp; omega) (by simp; omega) (by simp; omega)) (Below.refl _ _) (fun _ => rfl)
    (fun pre W => (∃ v0, Boxed W w2.heap.size 39 v0 ∧ W.ownsRow w2.heap.size 29 1 v0 pre.length (pcs P (pre.map Subtype.val)) ∧ True) ∧ Below w2.heap.size w2 W)
    (fun _ _ _ => False) ?own (fun _ _ _ _ _ hs _ _ => hs) ?start (fun x a' W => ∃ Bk, a' = { tmps := #[.slice A ps.length c, .slice A' ps.length c', .int .i64 v, .int .i64 a, .int .i64 (a + (m : Int)), undef, undef, undef, undef, undef, .slice none 0 0, .bool false, .pointer (some ⟨w1.heap.size, 0, none⟩), .bool true, .func (.func 179) #[] #[.pointer (some ⟨D1, 0, none⟩), .pointer (some ⟨D2, 0, none⟩), .pointer (some ⟨D3, 0, none⟩)], .pointer (some ⟨w2.heap.size, 0, none⟩), .pointer (some ⟨Bk, 0, none⟩), .tuple #[.func (.func 173) #[] #[.pointer (some ⟨b, 0, none⟩)], .bool true], .slice A ps.length c, .slice A' ps.length c', .tuple #[.func (.func 173) #[] #[.pointer (some ⟨b, 0, none⟩)], .bool true], .func (.func 173) #[] #[.pointer (some ⟨b, 0, none⟩)], .bool true, .bool true, .bool false, .tuple #[.func (.func 179) #[] #[.pointer (some ⟨D1, 0, none⟩), .pointer (some ⟨D2, 0, none⟩), .pointer (some ⟨D3, 0, none⟩)], .bool true], .int .i64 v, .int .i64 a, .int .i64 (a + (m : Int)), .tuple #[.func (.func 179) #[] #[.pointer (some ⟨D1, 0, none⟩), .pointer (some ⟨D2, 0, none⟩), .pointer (some ⟨D3, 0, none⟩)], .bool true], .func (.func 179) #[] #[.pointer (some ⟨D1, 0, none⟩), .pointer (some ⟨D2, 0, none⟩), .pointer (some ⟨D3, 0, none⟩)], .bool true, .bool true, .bool false, .func (.func 179) #[] #[.pointer (some ⟨D1, 0, none⟩), .pointer (some ⟨D2, 0, none⟩), .pointer (some ⟨D3, 0, none⟩)], .agg #[.int .i64 x.1.1, .int .i64 x.1.2], undef, undef, undef, undef, undef, undef, undef], defers := [] } ∧ W.cell? ⟨Bk, 0, none⟩ = some (.int .i64 x.1.1) ∧ W.cell? ⟨Bk, 1, none⟩ = some (.int .i64 x.1.2)) ?ownx ?assign ?body ?done ?stop
  case own =>
    intro K X Y row hs hg hr
    exact ⟨holdsRow_own (β := List Dir) w2.heap.size w2.heap.size 39 29 1 (fun pre => pre.length) (fun pre => pcs P (pre.map Subtype.val)) (fun _ _ => True) K X Y row hs.1 hg (fun r e => (hr r e).2), ownFrom_below (β := Unit) (Nat.le_refl _) (by simp) () X Y row hs.2 hg hr⟩
  case ownx =>
    intro x a' K X Y row hs hg hr
    obtain ⟨Bk, e, p1, p2⟩ := hs
    have hr' := fun r e => (hr r e).2
    exact ⟨Bk, e, cell_kept p1 hg hr', cell_kept p2 hg hr'⟩
  case start =>
    exact ⟨⟨_, Boxed.new w2 _ _, World.ownsRow_nil _ _ _ _, trivial⟩, gb_below (World.grownBy_alloc _ _ _)⟩
  case assign =>
    intro l pre x W K hI hK
    obtain ⟨⟨u, v⟩, hd⟩ := x
    gi_wp2
    obtain ⟨⟨v0, k1, k2, _⟩, hbl⟩ := hI
    have ga := World.grownBy_alloc W (.cells #[.int .i64 u, .int .i64 v] 36) none
    exact hK _ _ (KeepsFrom.of_grownBy ga (fun j e => by cases e)) (k3_g ga) ⟨⟨v0, k1.alloc _, k2.alloc _, trivial⟩, gb_below ((gb_of_below hbl).trans ga)⟩ ⟨W.heap.size, rfl, cell_of_row _ _ 0 _ _ _ (heap_alloc_new W _), cell_of_row _ _ 1 _ _ _ (heap_alloc_new W _)⟩
  case body =>
    intro l0 pre x a' W hl ⟨r, hr⟩ hI hAx hN
    obtain ⟨⟨u, v'⟩, hd⟩ := x
    obtain ⟨Bk, rfl, d0, d1⟩ := hAx
    obtain ⟨⟨v0, k1, k2, _⟩, hbl⟩ := hI
    obtain ⟨A3, c3, rfl⟩ := row_slice k2
    have q1 := k1.cell
    dsimp only at d0 d1
    have hgW := (gb_of_below hbl).trans (gb_drewN W 1 none)
    have HC := Lib.hid (HF.out b u v' hd W.drew (G2.trans hgW) (hf2.kept0 hgW))
    have p2 := (bx2.kept (gb_of_below hbl) (by simp)).cell
    have hp : pcs P ((pre ++ [(⟨(u, v'), hd⟩ : Dir)]).map Subtype.val) = pcs P (pre.map Subtype.val) ++ [.float .f32 (P u v')] := by rw [List.map_append, List.map_cons, List.map_nil, pcs_snoc]
    have HPP := Lib.hid hp
    have KK := Lib.hid (And.intro k1 (And.intro k2 hbl))
    have hlen : (pre ++ [(⟨(u, v'), hd⟩ : Dir)]).length = pre.length + 1 := by simp
    have HLN := Lib.hid hlen
    have hsw : w2.heap.size ≤ W.heap.size := hbl.size
    have hN2 : pre.length < 100000 := by omega
    clear k1 k2 hbl hgW hp hlen
    generalize P u v' = p at *
    gi_wp2
    gi_region_with_o (refine ⟨trivial, ?_⟩; gi_at_call 173; refine (CallsIn.inRound l0 (callsIn_wide.2 HC.out)).mono ?_; rintro e w5 ⟨rfl, hg5⟩; have gd := (gb_drewN W 1 none).trans hg5; obtain ⟨A6, c6, w6, hrun, q5, q5', q6, f6, z2, z3, z4, z5⟩ := app_at p i0 hi0 hz0 hz1 hz2 KK.out.1 KK.out.2.1 hsw (Nat.le_refl _) hN2 gd; have ZZ := Lib.hid (And.intro z2 (And.intro z3 (And.intro z4 z5))); clear z2 z3 z4 z5)
    all_goals
      have HD5 := Lib.hid gd
      clear gd
      gi_wp2
      obtain ⟨z2, z3, z4, z5⟩ := ZZ.out
      refine ⟨(KeepsFrom.of_grownBy HD5.out (fun j e => by cases e)).trans (z4.from _), k3_t _ _ _ (k3_g HD5.out) (k3_below y1 y2 y3 z5), ⟨⟨_, z2, ?_, trivial⟩, ?_⟩⟩
      · rw [HPP.out, HLN.out]
        exact z3
      · exact (gb_below ((gb_of_below KK.out.2.2).trans HD5.out)).trans z5
  case done =>
    rintro D xs W hD hS hI hK
    obtain ⟨⟨v0, k1, k2, _⟩, hbl⟩ := hI
    obtain ⟨A3, c3, rfl⟩ := row_slice k2
    have hlen : xs.length = m + 1 := by rw [← List.length_map (f := Subtype.val), hS, cutL_len]
    rw [hS, hlen] at k2
    rw [hlen] at k1
    have q2 := k1.cell
    have HG := Lib.hid (G2.trans (gb_of_below hbl))
    have HK2 := Lib.hid k2
    clear k1 k2 hbl hS hlen
    gi_wp2
    refine ⟨by simp, .inl ⟨_, _, rfl, run_takeDeferred hK, ?_⟩⟩
    have hsz2 := G2.size
    simp only [World.size_alloc] at hD
    exact ⟨_, results_tmp2 rfl _ _ _, _, _, rfl, row_low (ownsRow_putObj HK2.out _ hK rfl) (by omega), gb_new HG.out (grownBy_putObj' _ _ _) (by intro g e; injection e with e; omega)⟩
  case stop =>
    rintro D c pre W _ _ h _
    exact h.elim

end Go.Proofs.Ytpeclgfopincbaa.cutI
