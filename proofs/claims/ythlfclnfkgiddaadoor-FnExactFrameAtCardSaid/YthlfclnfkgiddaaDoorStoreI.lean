/- The bytes of a frame, by the program. -/
import Derived.Test.YthlfclnfkgiddaaDoorRows
import Derived.Test.YthlfclnfkgiddaaDoorSlc
import Derived.Test.YthlfclnfkgiddaaDoorSmall
import Derived.Test.YthlfclnfkgiddaaDoorWordN
import Derived.Test.YthlfclnfkgiddaaDoorNumN
import Derived.Test.YthlfclnfkgiddaaDoorWordS
import Derived.Test.YthlfclnfkgiddaaDoorWordI
import Derived.Test.YthlfclnfkgiddaaDoorCheckC
import Derived.Test.YthlfclnfkgiddaaDoorFloats
import Derived.Test.YthlfclnfkgiddaaDoorRound
import Derived.Test.YthlfclnfkgiddaaDoorValues
import Derived.Test.YthlfclnfkgiddaaDoorConv
import Derived.Test.YthlfclnfkgiddaaDoorFWalk
import Derived.Test.YthlfclnfkgiddaaDoorBits
import Derived.Test.YthlfclnfkgiddaaDoorPhase
import Derived.Test.YthlfclnfkgiddaaDoorSine
import Derived.Test.YthlfclnfkgiddaaDoorPhasor
import Derived.Test.YthlfclnfkgiddaaDoorFinWalk
import Derived.Test.YthlfclnfkgiddaaDoorFloat2
import Derived.Test.YthlfclnfkgiddaaDoorFloat3
import Derived.Test.YthlfclnfkgiddaaDoorListC
import Derived.Test.YthlfclnfkgiddaaDoorFrameS
import Derived.Test.YthlfclnfkgiddaaDoorFrameM
import Derived.WalkKit
import Derived.ProofKit
import Derived.OpenShut
import Derived.ShutString
import Derived.ChangeOld
import Derived.Below
import Derived.Lib.Hide
import Derived.BigQuiet
import Derived.Deep.QuietTactic
import Derived.WalkLawsBesides
import Derived.Outline
import Derived.Deep.QuietTactic
import Derived.BigQuiet
import Derived.Deep.LoopGhost
import Derived.Deep.RegionWith
import Derived.Deep.RegionHeld3
import Derived.Laws.ComplexArith
namespace Go.Proofs.YthlfclnfkgiddaaDoor.storeI
open Go.ChangeShapes Go.WideShapes Go.ChangeAt Go.RowKit
open Go.ChangeMaps (open_string shut_string)
set_option linter.unusedVariables false
open Go Ieee Go.RowKit
open Go.Proofs.YthlfclnfkgiddaaDoor.slc Go.Proofs.YthlfclnfkgiddaaDoor.small Go.Proofs.YthlfclnfkgiddaaDoor.wordN Go.Proofs.YthlfclnfkgiddaaDoor.numN Go.Proofs.YthlfclnfkgiddaaDoor.wordS Go.Proofs.YthlfclnfkgiddaaDoor.wordI Go.Proofs.YthlfclnfkgiddaaDoor.floats Go.Proofs.YthlfclnfkgiddaaDoor.bits Go.Proofs.YthlfclnfkgiddaaDoor.listC Go.Proofs.YthlfclnfkgiddaaDoor.frameS Go.Proofs.YthlfclnfkgiddaaDoor.frameM

theorem info64 : (Tryd.prog.info? 2).map (fun i => (i.zero, i.size, i.bytes)) = some (some (.int .i64 0), 1, 8) := by kernel_rfl
/-- The numbers of a frame's words. -/
def ws (cn : Nat → Nat) (idx : Nat) (xs : List (Nat × Nat)) : List Nat := idx :: xs.flatMap fun x => [cn x.1, cn x.2]
theorem ws_snoc (cn : Nat → Nat) (idx : Nat) (xs : List (Nat × Nat)) (x : Nat × Nat) : ws cn idx (xs ++ [x]) = ws cn idx xs ++ [cn x.1, cn x.2] := by simp [ws]
theorem ws_len (cn : Nat → Nat) (idx : Nat) (xs : List (Nat × Nat)) : (ws cn idx xs).length = 2 * xs.length + 1 := by
  unfold ws
  rw [List.length_cons]
  congr 1
  induction xs with
  | nil => rfl
  | cons x t ih => rw [List.flatMap_cons, List.length_append, ih, List.length_cons, List.length_cons, List.length_cons]; simp; omega
theorem ws_fw (cn : Nat → Nat) (idx : Nat) (xs : List (Nat × Nat)) : (ws cn idx xs).flatMap (fun n => wb n 4) = fw cn idx xs := by
  unfold ws fw
  rw [List.flatMap_cons]
  congr 1
  induction xs with
  | nil => rfl
  | cons x t ih => rw [List.flatMap_cons, List.flatMap_cons, List.flatMap_append, ih]; simp
theorem ws_bd {xs : List (Nat × Nat)} (hx : ∀ x ∈ xs, x.1 ≤ 4294967295 ∧ x.2 ≤ 4294967295) {idx : Nat} (hi : idx < 4294967296) : ∀ n ∈ ws (can .f32) idx xs, n < 4294967296 := by
  intro n hn
  unfold ws at hn
  rw [List.mem_cons, List.mem_flatMap] at hn
  rcases hn with rfl | ⟨x, hxm, h⟩
  · exact hi
  · have h1 := hx x hxm
    have h2 := can_le h1.1
    have h3 := can_le h1.2
    simp at h
    rcases h with rfl | rfl <;> omega
/-- Cells of numbers. -/
def n64 (L : List Nat) : List Value := L.map fun (n : Nat) => Value.int .i64 (n : Int)
theorem n64_len (L : List Nat) : (n64 L).length = L.length := by simp [n64]
theorem n64_app (L M : List Nat) : n64 (L ++ M) = n64 L ++ n64 M := by simp [n64]
theorem n64_one (L : List Nat) : ∀ u ∈ n64 L, u.oneCell' = true := fun u hu => by
  obtain ⟨x, _, rfl⟩ := List.mem_map.1 hu
  rfl
/-- An append of numbers that lie there. -/
theorem app64 {base : Nat} {W : World} {v : Value} {n : Nat} {xs : List Nat} (news : List Nat) (ad : Addr) (m cc : Nat) (i0 : TypeInfo) (hi0 : Tryd.prog.info? 2 = some i0) (hz0 : i0.zero = some (.int .i64 0)) (hz1 : i0.size = 1) (hz2 : i0.bytes = 8)
    (hown : W.ownsRow base 2 1 v n (n64 xs)) (hl : news.length = m) (hc : ∀ j u, (n64 news)[j]? = some u → W.cell? (ad.add j) = some u) (hn : n + m < 100000) (hb : base ≤ W.heap.size) :
    ∃ A6 c6 w6, (appS #[57, 57] 57 #[v, .slice (some ad) m cc]).run Tryd.prog W = .ok (.slice A6 (n + m) c6) w6 ∧
      w6.ownsRow base 2 1 (.slice A6 (n + m) c6) (n + m) (n64 (xs ++ news)) ∧ W.grownBy w6 v.ownBlock := by
  obtain ⟨v6, w6, hrun, r1, r2, _⟩ := run_append_own (P := Tryd.prog) W base 57 57 2 i0 (.int .i64 0) 1 8 Tryd.underlying57 hi0 hz0 hz1 hz2 rfl (by decide) _ _ _ hown ad m cc (n64 news) (by rw [n64_len, hl, Nat.mul_one]) hc (n64_one news) (by unfold maxLen; omega) (by omega) hb
  obtain ⟨A6, c6, rfl⟩ := row_slice r1
  rw [← n64_app] at r1
  exact ⟨A6, c6, w6, hrun, r1, r2⟩
theorem check_i (F : List UInt8) (w : World) (h : F.length ≤ 1000) : Calls Tryd.prog 102 #[.int .i64 0, .string (bs F)] w fun e w' => e = .returned (.tuple #[.int .i64 (ck F : Nat), .bool true]) ∧ w = w' := by
  have h1 := checkC.impl_yes 0 (bs F) w (by omega) (by omega) (by rw [bs_size]; unfold maxLen; omega)
  rw [bs_list, ← (ck_is F).1] at h1
  exact h1
theorem u8s_wb2 (n : Nat) : u8s (wb n 2) = [.int .u8 ((n % 256 : Nat) : Int), .int .u8 ((n / 256 % 256 : Nat) : Int)] := by
  unfold u8s wb
  simp [List.range_succ]
section
attribute [local go_sem ↓] app_stop shr_stop
set_option maxHeartbeats 4000000 in
set_option maxRecDepth 100000 in
theorem stored_i (B idx c : Nat) (A : Option Addr) (xs : List (Nat × Nat)) (w : World) (hx : ∀ x ∈ xs, x.1 ≤ 4294967295 ∧ x.2 ≤ 4294967295) (hn : xs.length ≤ 16) (hi : idx < 4294967296)
    (hr : Rd w B A xs.length (ccell xs)) (hB : B ≤ w.heap.size) :
    Calls Tryd.prog 63 #[.agg #[.int .i64 (idx : Int), .slice A xs.length c]] w fun e w' => e = .returned (.string (bs (fb (can .f32) idx xs))) ∧ w.grownBy w' none := by
  obtain ⟨i0, hi0, hz0, hz1, hz2⟩ := info_parts info64
  obtain ⟨j0, hj0, yz0, yz1, yz2⟩ := info_parts info8
  obtain ⟨N, hN⟩ : ∃ N, xs.length = N := ⟨_, rfl⟩
  rw [hN] at hr hn ⊢
  have HX := Lib.hid hx
  have HNL := Lib.hid hN
  have g1 := World.grownBy_alloc w (.cells #[.int .i64 (idx : Int), .slice A N c] 51) none
  have f1 := Fk.new w (.int .i64 (idx : Int)) (.slice A N c)
  obtain ⟨w1, hw1⟩ : ∃ w1, w.alloc (.cells #[.int .i64 (idx : Int), .slice A N c] 51) = w1 := ⟨_, rfl⟩
  rw [hw1] at g1 f1
  have g2 := World.grownBy_alloc w1 (.cells #[.int .i64 (idx : Int)] 2) none
  have hrow := World.ownsRow_lit (base := w1.heap.size) (e := 2) (size := 1) w1 #[.int .i64 (idx : Int)] 1 (Nat.le_refl _) (by decide) rfl
  have f2 := f1.keep g2 (by simp)
  obtain ⟨q0, q1, _, _⟩ := f1.cells
  obtain ⟨_, p1, _, _⟩ := f2.cells
  have HF := Lib.hid (fun (w' : World) (g : w1.grownBy w' none) => (f1.keep g (by simp)).cells.2.1)
  have HRD := Lib.hid (fun (w' : World) (g : w1.grownBy w' none) => hr.kept0 (g1.trans g) hB)
  have HW1 := Lib.hid hw1
  have H0 := Lib.hid (And.intro (show (w1.alloc (.cells #[.int .i64 (idx : Int)] 2)).ownsRow w1.heap.size 2 1 (.slice (some ⟨w.heap.size + 1, 0, none⟩) 1 1) 1 (n64 (ws (can .f32) idx (xs.take 0))) from by rw [show w.heap.size + 1 = w1.heap.size by rw [← hw1]; simp]; exact hrow) g2)
  have HG1 := Lib.hid g1
  clear hx hN hr g1 f1 g2 hrow f2 hw1
  go_enter Tryd.func63, Tryd.ntmps63
  go_wp2_with fail
  rw [HW1.out] at *
  go_loopw [3, 18] (fun v i wr => ∃ (k : Nat), k ≤ N ∧ i = .int .i64 k ∧ (∃ A c, v = .slice A (2 * k + 1) c ∧ wr.ownsRow w1.heap.size 2 1 (.slice A (2 * k + 1) c) (2 * k + 1) (n64 (ws (can .f32) idx (xs.take k)))) ∧ w1.grownBy wr none) (fun _ i _ => N - (intOf i).toNat)
  case atStart => exact ⟨0, Nat.zero_le _, rfl, ⟨_, _, rfl, H0.out.1⟩, H0.out.2⟩
  case round =>
    obtain ⟨k, hk, rfl, ⟨O, d, rfl, hown⟩, hg⟩ := hrel
    have hrd := HRD.out wr hg
    by_cases hlt : k < N
    · obtain ⟨ad, rfl, _, hc⟩ := hrd.at_ hlt
      obtain ⟨x, y, hxy⟩ : ∃ x y, xs[k]'(by rw [HNL.out]; exact hlt) = (x, y) := ⟨_, _, rfl⟩
      have hxb := HX.out _ (List.getElem_mem (by rw [HNL.out]; exact hlt : k < xs.length))
      rw [hxy] at hxb
      dsimp only at hxb
      have hc' : wr.cell? (ad.add k) = some (.complex .f32 x y) := by
        rw [hc]
        unfold ccell
        rw [show xs.getD k (0, 0) = (x, y) by rw [← hxy]; simp [List.getD, HNL.out, hlt]]
      have htk : xs.take (k + 1) = xs.take k ++ [(x, y)] := by rw [List.take_succ_eq_append_getElem (by rw [HNL.out]; exact hlt), hxy]
      have hws := ws_snoc (can .f32) idx (xs.take k) (x, y)
      rw [← htk] at hws
      have HWS := Lib.hid hws
      have HB1 := Lib.hid (fun w => impl_bits x w (by omega))
      have HB2 := Lib.hid (fun w => impl_bits y w (by omega))
      have HO := Lib.hid (And.intro hown hg)
      have k0 : (0 : Int) ≤ (k : Int) := by omega
      have k1 : (k : Int) < (N : Int) := by omega
      clear hc hws htk hxb hxy hrd hown hg
      go_wp2_with fail
      refine (HB1.out _).mono ?_
      rintro e w2 ⟨rfl, m1, hw2⟩
      have HG2 := Lib.hid (show wr.grownBy w2 none by rw [← hw2]; exact gb_drewN _ _ _)
      clear hw2
      go_wp2_with fail
      refine (HB2.out _).mono ?_
      rintro e w3 ⟨rfl, m2, hw3⟩
      have g3 := HG2.out.trans (show w2.grownBy w3 none by rw [← hw3]; exact gb_drewN _ _ _)
      have g4 := World.grownBy_alloc w3 (.cells #[.int .i64 (can .f32 x : Nat), .int .i64 (can .f32 y : Nat)] 2) none
      have hsz := (HO.out.2.trans g3).size
      obtain ⟨A6, c6, w6, hrun, z1, z2⟩ := app64 [can .f32 x, can .f32 y] ⟨w3.heap.size, 0, none⟩ 2 2 i0 hi0 hz0 hz1 hz2 (own_kept0 HO.out.1 (g3.trans g4)) rfl (World.news_of_block (cs := #[.int .i64 (can .f32 x : Nat), .int .i64 (can .f32 y : Nat)]) (t := 2) (fr := (0, 0)) (heap_alloc_new w3 _)) (by omega) (by simp; omega)
      rw [← HWS.out] at z1
      have HZ := Lib.hid (And.intro z1 (gb_new ((HO.out.2.trans g3).trans g4) z2 (fun g e => (HO.out.1.lt g e).1)))
      clear hw3 g3 g4 z1 z2 hsz
      go_wp2_with fail
      exact ⟨⟨k + 1, by omega, by go_num, ⟨A6, c6, rfl, HZ.out.1⟩, HZ.out.2⟩, by simp [intOf]; omega⟩
    · obtain rfl : k = N := by omega
      have hws : ∀ n ∈ ws (can .f32) idx xs, n < 4294967296 := ws_bd HX.out hi
      have hwl := ws_len (can .f32) idx xs
      rw [HNL.out] at hwl
      rw [show xs.take k = xs from List.take_of_length_le (by rw [HNL.out]; exact Nat.le_refl _)] at hown
      have HE := Lib.hid (ws_fw (can .f32) idx xs)
      have hfl := fw_len (can .f32) idx xs
      rw [HNL.out] at hfl
      have HFL := Lib.hid hfl
      have HFB := Lib.hid (show fb (can .f32) idx xs = fw (can .f32) idx xs ++ wb (ck (fw (can .f32) idx xs)) 2 from rfl)
      obtain ⟨NS, hNS⟩ : ∃ NS, ws (can .f32) idx xs = NS := ⟨_, rfl⟩
      rw [hNS] at hws hwl hown
      have HNS := Lib.hid hNS
      have HWB := Lib.hid hws
      have HO := Lib.hid (fun (w' : World) (g : wr.grownBy w' none) => own_kept0 hown g)
      have HG := Lib.hid (HG1.out.trans hg)
      clear hrd hown hg hws hfl hNS
      go_wp2_with fail
      obtain ⟨wL, rfl⟩ : ∃ wL, wL = wr := ⟨_, rfl⟩
      go_loopw [6, 34] (fun v i wr => ∃ (j : Nat), j ≤ 2 * k + 1 ∧ i = .int .i64 j ∧ (∃ A c, v = .slice A (4 * j) c ∧ wr.ownsRow wL.heap.size 5 1 (.slice A (4 * j) c) (4 * j) (u8s ((NS.take j).flatMap fun n => wb n 4))) ∧ wL.grownBy wr none) (fun _ i _ => 2 * k + 1 - (intOf i).toNat)
      case atStart => exact ⟨0, Nat.zero_le _, rfl, ⟨_, _, rfl, World.ownsRow_nil _ _ _ _⟩, World.grownBy.refl _ _⟩
      case round =>
        obtain ⟨j, hj, rfl, ⟨P, e, rfl, hst⟩, hg⟩ := hrel
        by_cases hlt2 : j < 2 * k + 1
        · have hjn : j < NS.length := by omega
          obtain ⟨n, hnn⟩ : ∃ n, NS[j] = n := ⟨_, rfl⟩
          have hnb := HWB.out n (by rw [← hnn]; exact List.getElem_mem hjn)
          obtain ⟨ad, rfl, _, hcell⟩ := (Rd.of_own (HO.out wr hg) (Nat.mul_one _).symm).at_ (k := j) hlt2
          have hcell' : wr.cell? (ad.add j) = some (.int .i64 (n : Int)) := by
            rw [hcell]
            simp [n64, List.getD, hjn, hnn]
          have htk : (NS.take (j + 1)).flatMap (fun n => wb n 4) = (NS.take j).flatMap (fun n => wb n 4) ++ wb n 4 := by
            rw [List.take_succ_eq_append_getElem hjn, hnn, List.flatMap_append]
            simp
          have HTK := Lib.hid htk
          have hwd := fun w => wordOf_i n w hnb
          obtain ⟨b0, hb0⟩ : ∃ b : Nat, bc n 0 = .int .u8 (b : Int) := ⟨_, rfl⟩
          obtain ⟨b1, hb1⟩ : ∃ b : Nat, bc n 1 = .int .u8 (b : Int) := ⟨_, rfl⟩
          obtain ⟨b2, hb2⟩ : ∃ b : Nat, bc n 2 = .int .u8 (b : Int) := ⟨_, rfl⟩
          obtain ⟨b3, hb3⟩ : ∃ b : Nat, bc n 3 = .int .u8 (b : Int) := ⟨_, rfl⟩
          have hu4 := u8s_wb4 n
          rw [hb0, hb1, hb2, hb3] at hu4
          rw [hb0, hb1, hb2, hb3] at hwd
          have HW := Lib.hid hwd
          have HU4 := Lib.hid hu4
          clear hwd hu4 hb0 hb1 hb2 hb3
          have HS := Lib.hid (And.intro hst hg)
          have k0 : (0 : Int) ≤ (j : Int) := by omega
          have k1 : (j : Int) < 2 * (k : Int) + 1 := by omega
          clear hcell htk hst hg hnn
          go_wp2_with fail
          refine (HW.out _).mono ?_
          rintro e2 w5 ⟨rfl, g5⟩
          have g6 := World.grownBy_alloc w5 (.cells #[.int .u8 (b0 : Int), .int .u8 (b1 : Int), .int .u8 (b2 : Int), .int .u8 (b3 : Int)] 142) none
          have hsz := (HS.out.2.trans g5).size
          obtain ⟨A6, c6, w6, hrun, z1, z2⟩ := app8 (wb n 4) ⟨w5.heap.size, 0, none⟩ 4 4 j0 hj0 yz0 yz1 yz2 (own_kept0 HS.out.1 (g5.trans g6)) (wb_len n 4) (by rw [HU4.out]; exact World.news_of_block (cs := #[.int .u8 (b0 : Int), .int .u8 (b1 : Int), .int .u8 (b2 : Int), .int .u8 (b3 : Int)]) (t := 142) (fr := (0, 0)) (heap_alloc_new w5 _)) (by omega) (by simp; omega)
          rw [← HTK.out] at z1
          have HZ := Lib.hid (And.intro z1 (gb_new ((HS.out.2.trans g5).trans g6) z2 (fun g e => (HS.out.1.lt g e).1)))
          clear g5 g6 z1 z2 hsz
          go_wp2_with fail
          go_roundw
          case rel => exact ⟨j + 1, by omega, by go_num, ⟨A6, c6, by rw [show 4 * (j + 1) = 4 * j + 4 by omega], by rw [show 4 * (j + 1) = 4 * j + 4 by omega]; exact HZ.out.1⟩, HZ.out.2⟩
          case measure => simp [intOf]; omega
        · obtain rfl : j = 2 * k + 1 := by omega
          have hF : (NS.take (2 * k + 1)).flatMap (fun n => wb n 4) = fw (can .f32) idx xs := by rw [List.take_of_length_le (by omega), ← HNS.out, HE.out]
          have hfl := HFL.out
          rw [hF] at hst
          have hs1 := str_of hst (by omega)
          have HFB2 := HFB
          obtain ⟨F, hFe⟩ : ∃ F, fw (can .f32) idx xs = F := ⟨_, rfl⟩
          rw [hFe] at hst hs1 hfl HFB2
          have HC := Lib.hid (fun w => check_i F w (by omega))
          obtain ⟨cb, cb2⟩ := ck_is F
          generalize ck F = C at *
          have HST := Lib.hid (And.intro hst hg)
          have HFE := Lib.hid hFe
          have hsh : ∀ w, (shrS 2 (.int .i64 (C : Int)) (.int .u64 8)).run Tryd.prog w = .ok (.int .i64 ((C / 256 : Nat) : Int)) w := fun w => run_shr w 2 C 1 (C / 256) (by simp) (by omega)
          have hu2 := u8s_wb2 C
          have x0 := wrap8 C
          have x1 := wrap8 (C / 256)
          have g7 := World.grownBy_alloc wr (.cells #[.int .u8 ((C % 256 : Nat) : Int), .int .u8 ((C / 256 % 256 : Nat) : Int)] 5) none
          obtain ⟨A6, c6, w6, hrun, z1, z2⟩ := app8 (wb C 2) ⟨wr.heap.size, 0, none⟩ 2 2 j0 hj0 yz0 yz1 yz2 (own_kept0 hst g7) (wb_len C 2) (by rw [hu2]; exact World.news_of_block (cs := #[.int .u8 ((C % 256 : Nat) : Int), .int .u8 ((C / 256 % 256 : Nat) : Int)]) (t := 5) (fr := (0, 0)) (heap_alloc_new wr _)) (by omega) (by have := hg.size; simp; omega)
          have hs2 := str_of z1 (by omega)
          have HZ := Lib.hid (HG.out.trans (gb_new (hg.trans g7) z2 (fun g e => (hst.lt g e).1)))
          rw [← HFB2.out] at hs2
          clear hF hst hg hFe hu2 g7 z1 z2 cb hfl HFB2
          obtain ⟨FB, hFB⟩ : ∃ FB, fb (can .f32) idx xs = FB := ⟨_, rfl⟩
          rw [hFB] at hs2
          have HFBE := Lib.hid hFB
          clear hFB
          generalize C / 256 % 256 = y1 at *
          generalize C / 256 = y0 at *
          generalize C % 256 = y2 at *
          go_wp2_with fail
          refine (HC.out _).mono ?_
          rintro e3 w' ⟨rfl, rfl⟩
          go_wp2_with fail
          exact bodyPost_ret (v := .string (bs FB)) (by simp [results, Tryd.results63, go_sem]) rfl ⟨by rw [HFBE.out], HZ.out⟩
end

end Go.Proofs.YthlfclnfkgiddaaDoor.storeI
