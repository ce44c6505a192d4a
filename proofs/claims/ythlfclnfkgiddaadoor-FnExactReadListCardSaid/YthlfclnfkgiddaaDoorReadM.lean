/- ReadList, by the model. -/
import Derived.Test.YthlfclnfkgiddaaDoorRows
import Derived.Test.YthlfclnfkgiddaaDoorSlc
import Derived.Test.YthlfclnfkgiddaaDoorSmall
import Derived.Test.YthlfclnfkgiddaaDoorListI
import Derived.Test.YthlfclnfkgiddaaDoorWordN
import Derived.Test.YthlfclnfkgiddaaDoorNumN
import Derived.Test.YthlfclnfkgiddaaDoorWordS
import Derived.Test.YthlfclnfkgiddaaDoorDecNum
import Derived.Test.YthlfclnfkgiddaaDoorDec
import Derived.Test.YthlfclnfkgiddaaDoorFmt
import Derived.Test.YthlfclnfkgiddaaDoorDecI
import Derived.Test.YthlfclnfkgiddaaDoorTextNum
import Derived.Test.YthlfclnfkgiddaaDoorItemC
import Derived.Test.YthlfclnfkgiddaaDoorReadNum
import Derived.Test.YthlfclnfkgiddaaDoorParseLaid
import Derived.Test.YthlfclnfkgiddaaDoorRead
import Derived.Test.YthlfclnfkgiddaaDoorCutN
import Derived.Test.YthlfclnfkgiddaaDoorCutT
import Derived.Test.YthlfclnfkgiddaaDoorSplitLaid
import Derived.Test.YthlfclnfkgiddaaDoorReadI
import Derived.WalkKit
import Derived.ProofKit
import Derived.OpenShut
import Derived.ShutString
import Derived.ChangeOld
import Derived.Below
import Derived.Lib.Hide
import Derived.BigQuiet
import Derived.Deep.QuietTactic
import Derived.WalkLawsBesides
import Derived.Outline
import Derived.Deep.QuietTactic
import Derived.BigQuiet
import Derived.Deep.LoopGhost
import Derived.Deep.RegionWith
import Derived.Deep.RegionHeld3
import Derived.Lib.Strings
import Derived.Maps.AppendAt
namespace Go.Proofs.YthlfclnfkgiddaaDoor.readM
open Go.ChangeShapes Go.WideShapes Go.ChangeAt Go.RowKit
open Go.ChangeMaps (open_string shut_string)
set_option linter.unusedVariables false
open Go Go.RowKit
open Go.Proofs.YthlfclnfkgiddaaDoor.slc Go.Proofs.YthlfclnfkgiddaaDoor.small Go.Proofs.YthlfclnfkgiddaaDoor.listI Go.Proofs.YthlfclnfkgiddaaDoor.wordN Go.Proofs.YthlfclnfkgiddaaDoor.wordS Go.Proofs.YthlfclnfkgiddaaDoor.readNum Go.Proofs.YthlfclnfkgiddaaDoor.read Go.Proofs.YthlfclnfkgiddaaDoor.cutN Go.Proofs.YthlfclnfkgiddaaDoor.cutT Go.Proofs.YthlfclnfkgiddaaDoor.readI

/-- Cells of integers. -/
theorem gb_new2 {a b c : World} {row r2 : Option Nat} (h : a.grownBy b row) (k : b.grownBy c r2) (hr : ∀ g, r2 = some g → a.heap.size ≤ g) : a.grownBy c row :=
  ⟨k.os.trans h.os, k.tape.trans h.tape, k.output.trans h.output, Nat.le_trans h.size k.size, fun i hi hne =>
    (k.block i (Nat.lt_of_lt_of_le hi h.size) (fun e => by have := hr i e.symm; omega)).trans (h.block i hi hne)⟩
def i64s (xs : List Int) : List Value := xs.map fun x => Value.int .i64 x
theorem i64s_app (xs ys : List Int) : i64s (xs ++ ys) = i64s xs ++ i64s ys := by simp [i64s]
theorem i64s_one (xs : List Int) : ∀ u ∈ i64s xs, u.oneCell' = true := fun u hu => by
  obtain ⟨x, _, rfl⟩ := List.mem_map.1 hu
  rfl
theorem appI {base n c : Nat} {W : World} {A : Option Addr} {xs : List Int} (x : Int) (hown : W.ownsRow base 2 1 (.slice A n c) n (i64s xs)) (hn : n ≤ 10000000) (hb : base ≤ W.heap.size) :
    ∃ A6 c6 w6, (appS #[57, 57] 57 #[.slice A n c, .slice (some ⟨W.heap.size, 0, none⟩) 1 1]).run Tryd.prog (W.alloc (.cells #[.int .i64 x] 2)) = .ok (.slice A6 (n + 1) c6) w6 ∧
      w6.ownsRow base 2 1 (.slice A6 (n + 1) c6) (n + 1) (i64s (xs ++ [x])) ∧ (W.alloc (.cells #[.int .i64 x] 2)).grownBy w6 (A.map Addr.block) ∧ (∀ b, b < W.heap.size → A.map Addr.block ≠ some b → A6.map Addr.block ≠ some b) := by
  obtain ⟨i0, hi0, hz0, hz1, hz2⟩ := info_parts Go.Proofs.YthlfclnfkgiddaaDoor.listI.info64
  obtain ⟨v6, w6, hrun, r1, r2, _, r3⟩ := run_append_own_at (P := Tryd.prog) (w := W.alloc (.cells #[.int .i64 x] 2)) base 57 57 2 i0 (.int .i64 0) 1 8 Tryd.underlying57 hi0 hz0 hz1 hz2 rfl (by decide) _ _ _ (hown.alloc _) ⟨W.heap.size, 0, none⟩ 1 1 (i64s [x]) rfl (World.news_of_block (cs := #[.int .i64 x]) (t := 2) (fr := (0, 0)) (heap_alloc_new W _)) (i64s_one _) (by unfold maxLen; omega) (by omega) (by simp; omega)
  obtain ⟨A6, c6, rfl⟩ := row_slice r1
  rw [own_blk] at r2
  rw [own_blk, own_blk] at r3
  rw [← i64s_app] at r1
  refine ⟨A6, c6, w6, hrun, r1, r2, fun b hb hne e => ?_⟩
  rcases r3 with r3 | r3
  · exact hne (r3.symm.trans e)
  · rw [e] at r3; injection r3 with r3; simp at r3; omega
theorem rv_snoc {P : List (List UInt8)} {k : Nat} (hk : k < P.length) : rv (P.take (k + 1)) = rv (P.take k) ++ [(readT P[k]).1] := by
  unfold rv
  rw [List.take_succ_eq_append_getElem hk, List.map_append]
  rfl
attribute [local go_sem ↓] app_stop
set_option maxHeartbeats 1000000 in
set_option maxRecDepth 100000 in
theorem read_m (s : ByteArray) (w : World) (hs : s.size ≤ 1048576) :
    Calls Tryd.prog 77 #[.string s] w fun e w' => RdP w (RL s.data.toList) e w' := by
  have g0 := World.grownBy_alloc w (.cells #[] 2) none
  have h0 := World.ownsRow_lit (base := w.heap.size) (e := 2) (size := 1) w #[] 0 (Nat.le_refl _) (Nat.zero_le _) rfl
  have H0 := Lib.hid (And.intro h0 g0)
  clear h0 g0
  by_cases hn : s.data.toList = [110, 111, 110, 101]
  · have h1 := none_beq s true (decide_eq_true hn)
    rw [show RL s.data.toList = ([], true) by unfold RL; rw [if_pos hn]]
    clear hn
    go_enter Tryd.func77, Tryd.ntmps77
    go_wp2_with fail
    go_ret2
    exact ⟨_, _, rfl, H0.out.1, H0.out.2⟩
  · have h1 := none_beq s false (decide_eq_false hn)
    have HC := Lib.hid (fun w => cut_s s 44 w hs)
    have hcl := cw_len 44 s.data.toList []
    by_cases hf : few s.data.toList
    · rw [RL_few hf]
      have hl64 := PL_len hf
      have hpl := PL_le s.data.toList
      have hPe : PL s.data.toList = cw 44 [] s.data.toList := by unfold PL; rw [if_neg hn]
      rw [hPe] at hl64 hpl ⊢
      have hsz : s.data.toList.length = s.size := by simp
      rw [hsz] at hpl
      clear hf hn hcl hPe hsz
      rw [show ((44 : UInt8).toNat : Int) = 44 from rfl] at HC
      generalize cw 44 [] s.data.toList = P at *
      obtain ⟨n, hN⟩ : ∃ n, P.length = n := ⟨_, rfl⟩
      rw [hN] at HC hl64
      have HNL := Lib.hid hN
      have HPL := Lib.hid hpl
      clear hpl
      have l1 : ¬ (64 : Int) < (n : Int) := by omega
      go_enter Tryd.func77, Tryd.ntmps77
      go_wp2_with fail
      refine (HC.out _).mono ?_
      rintro e w1 ⟨⟨A, d, rfl, hrow⟩, g1⟩
      have hrd := Rd.of_own hrow (Nat.mul_one _).symm
      have hbA := own_base hrow
      have HR := Lib.hid (And.intro hrd (show ∀ b, A.map Addr.block = some b → (some (⟨w.heap.size, 0, none⟩ : Addr)).map Addr.block ≠ some b from fun b e e2 => by have := (hbA b e).1; simp at this e2; omega))
      have HZ := Lib.hid (And.intro (own_kept0 H0.out.1 g1) (H0.out.2.trans g1))
      clear hrow hrd g1 hbA
      go_wp2_with fail
      go_loopw [4, 6] (fun o i wr => ∃ (j : Nat) (O : Option Addr) (c : Nat), j ≤ n ∧ i = .int .i64 j ∧ o = .slice O j c ∧ wr.ownsRow w.heap.size 2 1 (.slice O j c) j (i64s (rv (P.take j))) ∧ w.grownBy wr none ∧ Rd wr wr.heap.size A n (fun j => (st8 P).getD j undef) ∧ (∀ b, A.map Addr.block = some b → O.map Addr.block ≠ some b) ∧ rok (P.take j) = true) (fun _ i _ => n - (intOf i).toNat)
      case atStart => exact ⟨0, _, _, Nat.zero_le _, rfl, rfl, HZ.out.1, HZ.out.2, HR.out.1, HR.out.2, rfl⟩
      case round =>
        obtain ⟨j, O, c, hj, rfl, rfl, hown, hg, hr, hoff, hok⟩ := hrel
        by_cases hlt : j < n
        · have hjP : j < P.length := by rw [HNL.out]; exact hlt
          have HRD := Lib.hid hr
          obtain ⟨ad, rfl, hab, hc⟩ := hr.at_ hlt
          have HOF := Lib.hid (And.intro hoff hab)
          clear hr hoff hab
          rw [show (st8 P).getD j undef = .string (bs P[j]) by simp [st8, List.getD, hjP]] at hc
          have hv := fun w => val_spec (bs P[j]) w (by have := bs_sz HPL.out hjP; omega)
          rw [bs_list] at hv
          have hsn := rv_snoc hjP
          obtain ⟨x, b, hxb⟩ : ∃ x b, readT P[j] = (x, b) := ⟨_, _, rfl⟩
          rw [hxb] at hv hsn
          dsimp only at hv hsn
          have HV := Lib.hid hv
          have HSN := Lib.hid hsn
          have j0 : (0 : Int) ≤ (j : Int) := by omega
          have j1 : (j : Int) < (n : Int) := by omega
          cases b with
          | true =>
            have HOK := Lib.hid (rok_take hok hjP (by rw [hxb]))
            have HO := Lib.hid (And.intro hown hg)
            generalize bs P[j] = T at *
            clear hv hsn hxb hok hown hg
            go_wp2_with fail
            refine (HV.out _).mono ?_
            rintro e w3 ⟨rfl, g3⟩
            have hown := own_kept0 HO.out.1 g3
            have hsz3 := (HO.out.2.trans g3).size
            have hs30 := g3.size
            obtain ⟨A6, c6, w6, hrun, z1, z2, z3⟩ := appI x hown (by omega) hsz3
            rw [← HSN.out] at z1
            have gl := World.grownBy_alloc w3 (.cells #[.int .i64 x] 2) none
            have hb := own_base hown
            have HS2 := Lib.hid (And.intro z1 (And.intro (gb_new ((HO.out.2.trans g3).trans gl) z2 (fun g e => (hb g e).1)) (And.intro (show Rd w6 w6.heap.size (some ad) n (fun j => (st8 P).getD j undef) from ((HRD.out.kept0 (g3.trans gl) (Nat.le_refl _)).kept z2 (by have := (g3.trans gl).size; omega) (fun b e _ e2 => HOF.out.1 b e e2.symm)).mono (by have := ((g3.trans gl).size); have := z2.size; omega)) (fun b e => z3 b (by have := HOF.out.2; simp at e; omega) (HOF.out.1 b e)))))
            clear hown z1 z2 z3 g3 gl hb
            go_wp2_with fail
            exact ⟨⟨j + 1, A6, c6, by omega, by go_num, rfl, HS2.out.1, HS2.out.2.1, HS2.out.2.2.1, HS2.out.2.2.2, HOK.out⟩, by simp [intOf]; omega⟩
          | false =>
            have HB := Lib.hid (rok_bad hjP (by rw [hxb]))
            have HO := Lib.hid hg
            generalize bs P[j] = T at *
            clear hv hsn hxb hok hown hg
            go_wp2_with fail
            refine (HV.out _).mono ?_
            rintro e w3 ⟨rfl, g3⟩
            have HG3 := Lib.hid (HO.out.trans g3)
            clear g3
            go_wp2_with fail
            rw [RQ_no HB.out]
            go_ret2
            exact rdp_no _ _ HG3.out
        · obtain rfl : j = n := by omega
          rw [List.take_of_length_le (by rw [HNL.out]; exact Nat.le_refl _)] at hok hown
          have hlr : (rv P).length = j := by rw [rv_len]; exact HNL.out
          have HL := Lib.hid hlr
          have HO := Lib.hid (And.intro hown (And.intro hg hok))
          clear hown hg hok hlr hr hoff
          go_wp2_with fail
          rw [RQ_yes HO.out.2.2]
          refine bodyPost_ret (v := .tuple #[.slice O j c, .bool true]) (by simp [results, Tryd.results77, go_sem]) rfl ⟨O, c, by dsimp only; rw [HL.out], ?_, HO.out.2.1⟩
          have h5 := HO.out.1
          rw [show i64s (rv P) = lst (cl (rv P)) (rv P).length from (cl_map _).symm] at h5
          dsimp only
          rw [HL.out] at h5 ⊢
          exact h5
    · rw [RL_many hf]
      have hl : 64 < (cw 44 [] s.data.toList).length := by
        rw [hcl]
        by_cases hh : 64 < s.data.toList.count 44 + 1
        · exact hh
        · exact absurd (.inr hh) hf
      rw [show ((44 : UInt8).toNat : Int) = 44 from rfl] at HC
      generalize cw 44 [] s.data.toList = P at *
      obtain ⟨n, hN⟩ : ∃ n, P.length = n := ⟨_, rfl⟩
      rw [hN] at HC hl
      have l1 : (64 : Int) < (n : Int) := by omega
      clear hf hn hcl
      go_enter Tryd.func77, Tryd.ntmps77
      go_wp2_with fail
      refine (HC.out _).mono ?_
      rintro e w1 ⟨⟨A, d, rfl, hrow⟩, g1⟩
      have HG := Lib.hid (H0.out.2.trans g1)
      clear hrow g1
      go_wp2_with fail
      go_ret2
      exact rdp_no _ _ HG.out

end Go.Proofs.YthlfclnfkgiddaaDoor.readM
