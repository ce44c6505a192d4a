/- SkyPower by the program. -/
import Derived.Test.YtpeclgfopincbaaRows
import Derived.Test.YtpeclgfopincbaaSlc
import Derived.Test.YtpeclgfopincbaaSmall
import Derived.Test.YtpeclgfopincbaaOpens
import Derived.Test.YtpeclgfopincbaaPlaceAll
import Derived.Test.YtpeclgfopincbaaSteps
import Derived.Test.YtpeclgfopincbaaFloatAll
import Derived.Test.YtpeclgfopincbaaFWalk
import Derived.Test.YtpeclgfopincbaaFinWalk
import Derived.Test.YtpeclgfopincbaaRoot
import Derived.Test.YtpeclgfopincbaaFlAll
import Derived.Test.YtpeclgfopincbaaPhasor
import Derived.Test.YtpeclgfopincbaaListC
import Derived.Test.YtpeclgfopincbaaListCC
import Derived.Test.YtpeclgfopincbaaSteerNum
import Derived.Test.YtpeclgfopincbaaSineIn
import Derived.Test.YtpeclgfopincbaaPolyNum
import Derived.Test.YtpeclgfopincbaaPolyW
import Derived.Test.YtpeclgfopincbaaPoly1
import Derived.Test.YtpeclgfopincbaaPoly2
import Derived.Test.YtpeclgfopincbaaGAll
import Derived.Test.YtpeclgfopincbaaPowW
import Derived.Test.YtpeclgfopincbaaPolyD
import Derived.Test.YtpeclgfopincbaaSteering
import Derived.Test.YtpeclgfopincbaaDotC
import Derived.Test.YtpeclgfopincbaaPat
import Derived.Test.YtpeclgfopincbaaSkyNum
import Derived.Test.YtpeclgfopincbaaSkySeq
import Derived.WalkKit
import Derived.ProofKit
import Derived.OpenShut
import Derived.ShutString
import Derived.ChangeOld
import Derived.Below
import Derived.Lib.Hide
import Derived.BigQuiet
import Derived.Deep.QuietTactic
import Derived.WalkLawsBesides
import Derived.Outline
import Derived.RangeFuncNested
import Derived.RangeFuncKeeps
import Derived.RangeFuncLeaves
import Derived.RangeFuncCalls
import Derived.Shelf.Abstract
import Derived.Shelf.RegionOpen
import Derived.TacticsIn
import Derived.RegionIn
import Derived.OwnWalkIn
import Derived.TacticsInMore
import Derived.LoopNIn
import Derived.LoopIn
import Derived.RangeFuncBox
import Derived.Deep.LoopGhost
import Derived.Deep.RegionHeld3
import Derived.Deep.RegionWith
import Derived.Laws.ComplexArith
import Derived.StillTailTactics
namespace Go.Proofs.Ytpeclgfopincbaa.skyI
open Go.ChangeShapes Go.WideShapes Go.ChangeAt Go.RowKit
open Go.ChangeMaps (open_string shut_string)
set_option linter.unusedVariables false
open Go Ieee Go.RowKit Go.Shelf
open Go.Proofs.Ytpeclgfopincbaa.slc Go.Proofs.Ytpeclgfopincbaa.small Go.Proofs.Ytpeclgfopincbaa.opens Go.Proofs.Ytpeclgfopincbaa.places Go.Proofs.Ytpeclgfopincbaa.placeSet Go.Proofs.Ytpeclgfopincbaa.listC Go.Proofs.Ytpeclgfopincbaa.steerNum Go.Proofs.Ytpeclgfopincbaa.phase Go.Proofs.Ytpeclgfopincbaa.phasor Go.Proofs.Ytpeclgfopincbaa.polyNum Go.Proofs.Ytpeclgfopincbaa.pat Go.Proofs.Ytpeclgfopincbaa.skyNum Go.Proofs.Ytpeclgfopincbaa.skySeq Go.Proofs.Ytpeclgfopincbaa.polyW Go.Proofs.Ytpeclgfopincbaa.sine Go.Proofs.Ytpeclgfopincbaa.float2 Go.Proofs.Ytpeclgfopincbaa.float3

theorem run_store_float {P : Program} {w : World} {m : Mode} (a : Addr) (k : FloatKind) (x : Nat) : (store a (.float k x) m).run P w = stored P w a (.float k x) m := run_store P w a _ m rfl
attribute [local go_sem] Oper.semAt_some encd run_store_func run_store_float
theorem kd_t (D : Nat) {A B C : World} (h : KD D A B) (k : KD D B C) : KD D A C := fun v e => k v (h v e)
theorem kd_b (D : Nat) (w : World) (hD : D < w.heap.size) (W : World) (l : Nat) (o o' : Obj) (hl : w.heap.size ≤ l) (_ : W.heap[l]? = some o) (_ : o.isCells = false) (_ : o.isWalk = false) : KD D W (W.putObj l o') :=
  fun v e => (grownBy_putObj' W l o').cell e (by intro h; injection h with h; dsimp only at h; omega)
theorem dirs_i (s : Nat) (w : World) : Calls Try.prog 99 #[.int .i64 s] w fun e w' => e = .returned (.func (.func 175) #[] #[.pointer (some ⟨w.heap.size, 0, none⟩)]) ∧ w' = w.alloc (.cells #[.int .i64 s] 2) := by
  go_enter Try.func99, Try.ntmps99
  go_wp2
  go_ret
  exact ⟨rfl, rfl⟩
set_option maxRecDepth 100000 in
set_option maxHeartbeats 1600000 in
theorem sky_i (A A' : Option Addr) (c c' B : Nat) (ps : List (Int × Int)) (l : List (Nat × Nat)) (s : Nat) (w : World) (h0 : 16 ≤ s) (h1 : s < 65) (hv : vp ps = true) (hl : l.length = ps.length) (hw : Wk l) (hr : Rd w B A (ps.length * 2) (pcell ps)) (hr' : Rd w B A' ps.length (ccell l)) (hB : B ≤ w.heap.size) :
    Calls Try.prog 19 #[.slice A ps.length c, .slice A' ps.length c', .int .i64 s] w fun e w' => e = .returned (.tuple #[.float .f32 (nw (sky (pwd ps l) (rows (us s) cI (us s))).1), .int .i64 ((sky (pwd ps l) (rows (us s) cI (us s))).2), .bool true]) ∧ w.grownBy w' none := by
  have HP := Lib.hid (fun (w1 : World) (g : w.grownBy w1 none) => patof A A' c c' B ps w1 hv (hr.kept0 g hB) (Nat.le_trans hB g.size))
  have HF := Lib.hid (fun (b : Nat) (u v : Int) (hd : dirB u v = true) (w1 : World) (g : w.grownBy w1 none) (h : Pf w1 b A A' ps.length c c') => pf_call b A A' c c' B ps l u v w1 hv hd hl hw (hr.kept0 g hB) (hr'.kept0 g hB) (Nat.le_trans hB g.size) h)
  have HB := Lib.hid (fun (u v : Int) (hd : dirB u v = true) => pwd_bs (u := u) (v := v) hl hw hv hd)
  have s0 : (1 : Int) ≤ s := by omega
  have s1 : (s : Int) ≤ 64 := by omega
  clear hr hr' hv hw
  refine (callsIn_wide (n := 5)).1 ?_
  refine callsIn_of_wp_marks Try.func19 rfl trivial ?_ rfl
  simp only [Try.ntmps19, List.size_toArray, List.length_cons, List.length_nil, Nat.reduceAdd, Nat.reduceSub, Array.replicate_succ, Array.replicate_zero, List.push_toArray, List.append_toArray, List.nil_append, List.cons_append]
  have hmx : Try.prog.follows .mixedOrders = true := by kernel_rfl
  gi_wp2
  refine ⟨trivial, (callsIn_wide.2 (HP.out _ (World.grownBy.refl _ _))).mono ?_⟩
  rintro e w1 ⟨b, rfl, hb, hf, g1⟩
  gi_wp2
  refine ⟨trivial, (callsIn_wide.2 (within_yes _ _ _ _ s0 s1)).mono ?_⟩
  rintro e w' ⟨rfl, rfl⟩
  gi_wp2
  refine ⟨trivial, (callsIn_wide.2 (dirs_i s _)).mono ?_⟩
  rintro e w' ⟨rfl, rfl⟩
  gi_wp2
  have hDc : ((((w1.alloc (.cells #[.func (.func 173) #[] #[.pointer (some ⟨b, 0, none⟩)]] 115)).alloc (.cells #[.float .f64 0] 32)).alloc (.cells #[.int .i64 0] 2)).alloc (.cells #[.int .i64 s] 2)).cell? ⟨w1.heap.size + 1 + 1 + 1, 0, none⟩ = some (.int .i64 s) := by
    have := box_cell (((w1.alloc (.cells #[.func (.func 173) #[] #[.pointer (some ⟨b, 0, none⟩)]] 115)).alloc (.cells #[.float .f64 0] 32)).alloc (.cells #[.int .i64 0] 2)) (.int .i64 s) 2
    simpa using this
  refine wpIn_rangeFunc_ownH rfl (by omega) (gf := 175) (lb := #[.pointer (some ⟨w1.heap.size + 1 + 1 + 1, 0, none⟩)]) rfl trivial (enters_of Try.func175 (by kernel_rfl) rfl) (sky_seq s (w1.heap.size + 1 + 1 + 1) _ h0 h1 hDc) (kd_t _) (kd_b _ _ (by simp)) (Below.refl _ _) (fun _ => rfl)
    (fun pre W => Boxed W w1.heap.size 115 (.func (.func 173) #[] #[.pointer (some ⟨b, 0, none⟩)]) ∧ Boxed W (w1.heap.size + 1) 32 (.float .f64 (sky (pwd ps l) (pre.map Subtype.val)).1) ∧ Boxed W (w1.heap.size + 1 + 1) 2 (.int .i64 (sky (pwd ps l) (pre.map Subtype.val)).2) ∧ Below w1.heap.size w1 W)
    (fun _ _ _ => False) ?own (fun _ _ _ _ _ hs _ _ => hs) ?start (fun x a' W => ∃ Bk, a' = { tmps := #[.slice A ps.length c, .slice A' ps.length c', .int .i64 s, undef, undef, undef, .float .f32 0, .int .i64 0, .bool false, .pointer (some ⟨w1.heap.size, 0, none⟩), .bool true, .pointer (some ⟨w1.heap.size + 1, 0, none⟩), .pointer (some ⟨w1.heap.size + 1 + 1, 0, none⟩), .pointer (some ⟨Bk, 0, none⟩), .tuple #[.func (.func 173) #[] #[.pointer (some ⟨b, 0, none⟩)], .bool true], .slice A ps.length c, .slice A' ps.length c', .tuple #[.func (.func 173) #[] #[.pointer (some ⟨b, 0, none⟩)], .bool true], .func (.func 173) #[] #[.pointer (some ⟨b, 0, none⟩)], .bool true, .bool true, .bool false, .bool false, .int .i64 s, .bool true, .bool false, .bool false, .int .i64 s, .func (.func 175) #[] #[.pointer (some ⟨w1.heap.size + 1 + 1 + 1, 0, none⟩)], .agg #[.int .i64 x.1.1, .int .i64 x.1.2], undef, undef, undef, undef, undef, undef, undef, undef, undef, undef, undef], defers := [] } ∧ W.cell? ⟨Bk, 0, none⟩ = some (.int .i64 x.1.1) ∧ W.cell? ⟨Bk, 1, none⟩ = some (.int .i64 x.1.2)) ?ownx ?assign ?body ?done ?stop
  case own =>
    intro K X Y row hs hg hr
    obtain ⟨k1, k2, k3, hb⟩ := hs
    have hr' := fun r e => (hr r e).2
    exact ⟨boxed_own _ _ (fun _ : Unit => _) () X Y row k1 hg hr', boxed_own _ _ (fun _ : Unit => _) () X Y row k2 hg hr', boxed_own _ _ (fun _ : Unit => _) () X Y row k3 hg hr', ownFrom_below (β := Unit) (Nat.le_refl _) (by simp; omega) () X Y row hb hg hr⟩
  case ownx =>
    intro x a' K X Y row hs hg hr
    obtain ⟨Bk, e, p1, p2⟩ := hs
    have hr' := fun r e => (hr r e).2
    exact ⟨Bk, e, cell_kept p1 hg hr', cell_kept p2 hg hr'⟩
  case start =>
    have b1 := Boxed.new w1 115 (.func (.func 173) #[] #[.pointer (some ⟨b, 0, none⟩)])
    have b2 := Boxed.new (w1.alloc (.cells #[.func (.func 173) #[] #[.pointer (some ⟨b, 0, none⟩)]] 115)) 32 (.float .f64 0)
    have b3 := Boxed.new ((w1.alloc (.cells #[.func (.func 173) #[] #[.pointer (some ⟨b, 0, none⟩)]] 115)).alloc (.cells #[.float .f64 0] 32)) 2 (.int .i64 0)
    rw [World.size_alloc] at b2
    rw [World.size_alloc, World.size_alloc] at b3
    exact ⟨((b1.alloc _).alloc _).alloc _, (b2.alloc _).alloc _, b3.alloc _, gb_below ((((World.grownBy_alloc _ _ _).trans (World.grownBy_alloc _ _ _)).trans (World.grownBy_alloc _ _ _)).trans (World.grownBy_alloc _ _ _))⟩
  case assign =>
    intro l pre x W K hI hK
    obtain ⟨⟨u, v⟩, hd⟩ := x
    gi_wp2
    obtain ⟨k1, k2, k3, hbl⟩ := hI
    have ga := World.grownBy_alloc W (.cells #[.int .i64 u, .int .i64 v] 36) none
    exact hK _ _ (KeepsFrom.of_grownBy ga (fun j e => by cases e)) (fun v e => ga.cell e (by simp)) ⟨k1.alloc _, k2.alloc _, k3.alloc _, gb_below ((gb_of_below hbl).trans ga)⟩ ⟨W.heap.size, rfl, cell_of_row _ _ 0 _ _ _ (heap_alloc_new W _), cell_of_row _ _ 1 _ _ _ (heap_alloc_new W _)⟩
  case body =>
    intro l0 pre x a' W hl ⟨r, hr⟩ hI hAx hN
    obtain ⟨⟨u, v⟩, hd⟩ := x
    obtain ⟨Bk, rfl, d0, d1⟩ := hAx
    obtain ⟨k1, k2, k3, hbl⟩ := hI
    have q1 := k1.cell
    have q2 := k2.cell
    have q3 := k3.cell
    dsimp only at d0 d1
    have hgW := (gb_of_below hbl).trans (gb_drewN W 1 none)
    have HC := Lib.hid (HF.out b u v hd W.drew (g1.trans hgW) (hf.kept0 hgW))
    obtain ⟨e1, e2, e3⟩ := sky_next HB.out (pre.map Subtype.val) u v (by rw [List.length_map]; omega) (fun d hd => by obtain ⟨x, _, rfl⟩ := List.mem_map.1 hd; exact x.2) hd
    have r1 := cvw e1
    have r2 := fun w : World => run_ok (P := Try.prog) e2 rfl w 32
    have HE3 := Lib.hid e3
    have HE4 := Lib.hid (show wrap64 (((sky (pwd ps l) (pre.map Subtype.val)).2 : Int) + 1) = ((sky (pwd ps l) (pre.map Subtype.val)).2 : Int) + 1 from w64 (by rw [sky_len, List.length_map]; omega))
    clear e1 e2 e3
    have KK := Lib.hid (And.intro k1 (And.intro k2 (And.intro k3 hbl)))
    clear k1 k2 k3 hbl hgW
    generalize pwd ps l u v = P at *
    gi_wp2
    gi_region_with_o (refine ⟨trivial, ?_⟩; gi_at_call 173; refine (CallsIn.inRound l0 (callsIn_wide.2 HC.out)).mono ?_; rintro e w5 ⟨rfl, hg5⟩; have gd := (gb_drewN W 1 none).trans hg5; have b2' := KK.out.2.1.kept gd (by simp); have b3' := KK.out.2.2.1.kept gd (by simp); have q2' := b2'.cell; have q3' := b3'.cell; have f2' := b2'.frozen; have f3' := b3'.frozen; clear b2' b3')
    all_goals
      have HD5 := Lib.hid gd
      clear gd
      gi_wp2
      refine ⟨(KeepsFrom.of_grownBy HD5.out (fun j e => by cases e)).trans ((KeepsFrom.of_grownBy (grownBy_setCell' _ _ _) (fun j e => by cases e; simp <;> omega)).trans (KeepsFrom.of_grownBy (grownBy_setCell' _ _ _) (fun j e => by cases e; simp <;> omega))), fun v e => (grownBy_setCell' _ _ _).cell ((grownBy_setCell' _ _ _).cell (HD5.out.cell e (by simp)) (by simp <;> omega)) (by simp <;> omega), ?_⟩
      obtain ⟨z1, z2, z3, zb⟩ := KK.out
      have n1 : w1.heap.size ≠ w1.heap.size + 1 := by omega
      have n2 : w1.heap.size ≠ w1.heap.size + 1 + 1 := by omega
      have n3 : w1.heap.size + 1 ≠ w1.heap.size + 1 + 1 := by omega
      rw [List.map_append, List.map_cons, List.map_nil]
      refine ⟨((z1.kept HD5.out (by simp)).other n1 _).other n2 _, ((z2.kept HD5.out (by simp)).set _).other n3 _, ?_, ?_⟩
      · dsimp only
        rw [HE3.out, Int.natCast_add, HE4.out]
        exact ((z3.kept HD5.out (by simp)).other n3.symm _).set _
      · exact gb_below (gb_new (gb_new ((gb_of_below zb).trans HD5.out) (grownBy_setCell' _ _ _) (by intro g e; injection e with e; omega)) (grownBy_setCell' _ _ _) (by intro g e; injection e with e; omega))
  case done =>
    rintro D xs W hD hS hI hK
    obtain ⟨k1, k2, k3, hbl⟩ := hI
    rw [hS] at k2 k3
    have hn := few s h1 h0
    have hb2 := sky_bd HB.out (rows (us s) cI (us s)) (by omega) (by rw [← hS]; intro d hd; obtain ⟨x, _, rfl⟩ := List.mem_map.1 hd; exact x.2)
    have r1 := cvn (nw_is hb2 (by omega)).1
    have q2 := k2.cell
    have q3 := k3.cell
    have HG := Lib.hid (g1.trans (gb_of_below hbl))
    clear k1 k2 k3 hbl hb2 hS hn
    gi_wp2
    gi_big_quiet_th_o (fail)
    gi_wp2
    refine ⟨by simp, .inl ⟨_, _, rfl, run_takeDeferred hK, ?_⟩⟩
    have hsz := g1.size
    simp only [World.size_alloc] at hD
    exact ⟨_, results_tmp3 rfl _ _ _, rfl, gb_new (HG.out.trans (gb_drewN W nq none)) (grownBy_putObj' _ _ _) (by intro g e; injection e with e; omega)⟩
  case stop =>
    rintro D c pre W _ _ h _
    exact h.elim

end Go.Proofs.Ytpeclgfopincbaa.skyI
