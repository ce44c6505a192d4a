/- ReadList, by the program. -/
import Derived.Test.YthlfclnfkgiddaaDoorRows
import Derived.Test.YthlfclnfkgiddaaDoorSlc
import Derived.Test.YthlfclnfkgiddaaDoorSmall
import Derived.Test.YthlfclnfkgiddaaDoorListI
import Derived.Test.YthlfclnfkgiddaaDoorWordN
import Derived.Test.YthlfclnfkgiddaaDoorNumN
import Derived.Test.YthlfclnfkgiddaaDoorWordS
import Derived.Test.YthlfclnfkgiddaaDoorDecNum
import Derived.Test.YthlfclnfkgiddaaDoorDec
import Derived.Test.YthlfclnfkgiddaaDoorFmt
import Derived.Test.YthlfclnfkgiddaaDoorDecI
import Derived.Test.YthlfclnfkgiddaaDoorTextNum
import Derived.Test.YthlfclnfkgiddaaDoorItemC
import Derived.Test.YthlfclnfkgiddaaDoorReadNum
import Derived.Test.YthlfclnfkgiddaaDoorParseLaid
import Derived.Test.YthlfclnfkgiddaaDoorRead
import Derived.Test.YthlfclnfkgiddaaDoorCutN
import Derived.Test.YthlfclnfkgiddaaDoorCutT
import Derived.Test.YthlfclnfkgiddaaDoorSplitLaid
import Derived.WalkKit
import Derived.ProofKit
import Derived.OpenShut
import Derived.ShutString
import Derived.ChangeOld
import Derived.Below
import Derived.Lib.Hide
import Derived.BigQuiet
import Derived.Deep.QuietTactic
import Derived.WalkLawsBesides
import Derived.Outline
import Derived.Deep.QuietTactic
import Derived.BigQuiet
import Derived.Deep.LoopGhost
import Derived.Deep.RegionWith
import Derived.Deep.RegionHeld3
import Derived.Lib.Strings
namespace Go.Proofs.YthlfclnfkgiddaaDoor.readI
open Go.ChangeShapes Go.WideShapes Go.ChangeAt Go.RowKit
open Go.ChangeMaps (open_string shut_string)
set_option linter.unusedVariables false
open Go Go.RowKit
open Go.Proofs.YthlfclnfkgiddaaDoor.slc Go.Proofs.YthlfclnfkgiddaaDoor.small Go.Proofs.YthlfclnfkgiddaaDoor.listI Go.Proofs.YthlfclnfkgiddaaDoor.wordN Go.Proofs.YthlfclnfkgiddaaDoor.wordS Go.Proofs.YthlfclnfkgiddaaDoor.decI Go.Proofs.YthlfclnfkgiddaaDoor.readNum Go.Proofs.YthlfclnfkgiddaaDoor.read Go.Proofs.YthlfclnfkgiddaaDoor.cutN Go.Proofs.YthlfclnfkgiddaaDoor.cutT Go.Proofs.YthlfclnfkgiddaaDoor.splitLaid

/-- Cells of integers. -/
def cl (xs : List Int) : Nat → Value := fun j => .int .i64 (xs.getD j 0)
theorem cl_ints (xs : List Int) (n : Nat) : Ints (cl xs) n := fun j _ => ⟨_, rfl⟩
theorem cl_map (xs : List Int) : lst (cl xs) xs.length = xs.map fun x => Value.int .i64 x := by
  apply List.ext_getElem?
  intro i
  by_cases h : i < xs.length
  · rw [lst_get _ _ _ h, List.getElem?_map, List.getElem?_eq_getElem h]
    unfold cl
    simp [List.getD, h]
  · rw [List.getElem?_eq_none (by rw [lst_len]; omega), List.getElem?_eq_none (by simp; omega)]
/-- The library's greatest length of a short text is some integer. -/
def MaxV (w : World) : Prop := ∃ m, w.cell? ⟨5, 0, none⟩ = some (.int .i64 m)
theorem MaxV.kept {w w' : World} (h : MaxV w) (hg : w.grownBy w' none) : MaxV w' := by
  obtain ⟨m, h1⟩ := h
  exact ⟨m, hg.cell h1 (by simp)⟩
theorem none_beq (s : ByteArray) (b : Bool) (h : decide (s.data.toList = [110, 111, 110, 101]) = b) : (s.toList == [110, 111, 110, 101]) = b := by
  rw [Lib.toList_data, ← h, Bool.eq_iff_iff]
  simp
set_option maxRecDepth 100000 in
theorem split_none (s : ByteArray) (w : World) (h : s.data.toList = [110, 111, 110, 101]) :
    Calls Tryd.prog 78 #[.string s, .int .i64 64] w fun e w' => e = .returned (.tuple #[.slice none 0 0, .bool true]) ∧ w = w' := by
  have h1 := none_beq s true (decide_eq_true h)
  go_enter Tryd.func78, Tryd.ntmps78
  go_wp2_with fail
  go_ret2
  exact ⟨rfl, rfl⟩
set_option maxRecDepth 100000 in
theorem split_long (s : ByteArray) (w : World) (h : ¬ s.data.toList = [110, 111, 110, 101]) (hc : 64 < s.data.toList.count 44 + 1) :
    Calls Tryd.prog 78 #[.string s, .int .i64 64] w fun e w' => e = .returned (.tuple #[.slice none 0 0, .bool false]) ∧ w = w' := by
  have h1 := none_beq s false (decide_eq_false h)
  have HC := Lib.hid (fun w => strings_Count_one s 44 w)
  obtain ⟨k, hk⟩ : ∃ k, Lib.countByte s.data.toList 44 = k := ⟨_, rfl⟩
  rw [hk] at HC
  have hk2 : (64 : Int) ≤ (k : Int) := by
    have : s.data.toList.count 44 = k := hk
    omega
  clear hk hc h
  go_enter Tryd.func78, Tryd.ntmps78
  go_wp2_with fail
  refine (HC.out _).mono ?_
  rintro e w' ⟨rfl, rfl⟩
  go_wp2_with fail
  go_ret2
  exact ⟨rfl, rfl⟩
set_option maxRecDepth 100000 in
theorem split_ok (s : ByteArray) (w : World) (hs : s.size ≤ 1048576) (h : ¬ s.data.toList = [110, 111, 110, 101]) (hc : ¬ 64 < s.data.toList.count 44 + 1) (hm : MaxV w) :
    Calls Tryd.prog 78 #[.string s, .int .i64 64] w fun e w' => e = .returned (.tuple #[.slice (some ⟨w.heap.size, 0, none⟩) (cw 44 [] s.data.toList).length (cw 44 [] s.data.toList).length, .bool true]) ∧ w' = w.alloc (.cells (st8 (cw 44 [] s.data.toList)).toArray 9) := by
  have h1 := none_beq s false (decide_eq_false h)
  have HC := Lib.hid (fun w => strings_Count_one s 44 w)
  obtain ⟨k, hk⟩ : ∃ k, Lib.countByte s.data.toList 44 = k := ⟨_, rfl⟩
  rw [hk] at HC
  have hk2 : (k : Int) < 64 := by
    have : s.data.toList.count 44 = k := hk
    omega
  obtain ⟨m, hm⟩ := hm
  have HS := strings_Split s ⟨#[44]⟩ m w (by omega) hm (by decide)
  rw [st8_split] at HS
  have hcl : Lib.countB s ⟨#[44]⟩ + 1 = (cw 44 [] s.data.toList).length := by
    rw [cw_len]
    congr 1
    exact Lib.count_one 44 _
  rw [hcl] at HS
  have HS := Lib.hid HS
  clear hk hc h hm hcl
  go_enter Tryd.func78, Tryd.ntmps78
  go_wp2_with fail
  refine (HC.out _).mono ?_
  rintro e w' ⟨rfl, rfl⟩
  go_wp2_with fail
  refine HS.out.mono ?_
  rintro e w' ⟨rfl, rfl⟩
  go_wp2_with fail
  go_ret2
  exact ⟨rfl, rfl⟩
/-- The parts of a list's text. -/
def PL (L : List UInt8) : List (List UInt8) := if L = [110, 111, 110, 101] then [] else cw 44 [] L
theorem cw_le (c : UInt8) (L : List UInt8) : ∀ cur, ∀ p ∈ cw c cur L, p.length ≤ cur.length + L.length := by
  induction L with
  | nil => intro cur p hp; simp [cw] at hp; subst hp; simp
  | cons x t ih =>
    intro cur p hp
    rw [cw] at hp
    split at hp
    · rcases List.mem_cons.1 hp with rfl | hp
      · omega
      · have := ih [] p hp
        simp at this ⊢
        omega
    · have := ih _ p hp
      simp at this ⊢
      omega
theorem PL_le (L : List UInt8) : ∀ p ∈ PL L, p.length ≤ L.length := by
  intro p hp
  unfold PL at hp
  split at hp
  · cases hp
  · have := cw_le 44 L [] p hp
    simpa using this
/-- Not too many parts. -/
def few (L : List UInt8) : Prop := L = [110, 111, 110, 101] ∨ ¬ 64 < L.count 44 + 1
theorem PL_len {L : List UInt8} (h : few L) : (PL L).length ≤ 64 := by
  unfold PL
  split
  · simp
  · next hn =>
    rw [cw_len]
    rcases h with h | h
    · exact absurd h hn
    · omega
/-- The list that parts tell. -/
def RQ (P : List (List UInt8)) : List Int × Bool := if rok P = true then (rv P, true) else ([], false)
theorem RQ_yes {P : List (List UInt8)} (h : rok P = true) : RQ P = (rv P, true) := by unfold RQ; rw [if_pos h]
theorem RQ_no {P : List (List UInt8)} (h : rok P = false) : RQ P = ([], false) := by unfold RQ; rw [if_neg (by rw [h]; exact Bool.false_ne_true)]
theorem RL_few {L : List UInt8} (h : few L) : RL L = RQ (PL L) := by
  unfold RL PL RQ
  by_cases hn : L = [110, 111, 110, 101]
  · rw [if_pos hn, if_pos hn]; rfl
  · rw [if_neg hn, if_neg hn]
    rcases h with h | h
    · exact absurd h hn
    · rw [if_neg h]
theorem RL_many {L : List UInt8} (h : ¬ few L) : RL L = ([], false) := by
  unfold few at h
  unfold RL
  rw [if_neg (fun e => h (.inl e)), if_pos (by by_cases hh : 64 < L.count 44 + 1; exact hh; exact absurd (.inr hh) h)]
theorem split_go (s : ByteArray) (w : World) (hs : s.size ≤ 1048576) (h : few s.data.toList) (hm : MaxV w) :
    Calls Tryd.prog 78 #[.string s, .int .i64 64] w fun e w' => ∃ A, e = .returned (.tuple #[.slice A (PL s.data.toList).length (PL s.data.toList).length, .bool true]) ∧ Rd w' w'.heap.size A (PL s.data.toList).length (fun j => .string (bs ((PL s.data.toList).getD j []))) ∧ w.grownBy w' none := by
  by_cases hn : s.data.toList = [110, 111, 110, 101]
  · have hp : PL s.data.toList = [] := by unfold PL; rw [if_pos hn]
    rw [hp]
    exact (split_none s w hn).mono fun e w' ⟨h1, h2⟩ => ⟨none, h1, Rd.nil, by subst h2; exact World.grownBy.refl _ _⟩
  · have hp : PL s.data.toList = cw 44 [] s.data.toList := by unfold PL; rw [if_neg hn]
    rw [hp]
    refine (split_ok s w hs hn (by rcases h with h | h; exact absurd h hn; exact h) hm).mono fun e w' ⟨h1, h2⟩ => ?_
    subst h2
    refine ⟨_, h1, fun _ => ⟨⟨w.heap.size, 0, none⟩, rfl, by simp, fun j hj => ?_⟩, World.grownBy_alloc _ _ _⟩
    rw [show (⟨w.heap.size, 0, none⟩ : Addr).add j = ⟨w.heap.size, j, none⟩ by unfold Addr.add; split <;> simp_all, cell_of_row _ _ j _ _ _ (heap_alloc_new w (.cells (st8 (cw 44 [] s.data.toList)).toArray 9))]
    simp [st8, List.getD, hj]
/-- What a call that returns the list of a text leaves. -/
def RdP (w : World) (R : List Int × Bool) (e : Ending) (w' : World) : Prop := ∃ A c, e = .returned (.tuple #[.slice A R.1.length c, .bool R.2]) ∧ w'.ownsRow w.heap.size 2 1 (.slice A R.1.length c) R.1.length (lst (cl R.1) R.1.length) ∧ w.grownBy w' none
theorem rdp_no (w w' : World) (hg : w.grownBy w' none) : RdP w ([], false) (.returned (.tuple #[.slice none 0 0, .bool false])) w' := ⟨(Option.none : Option Addr), 0, rfl, World.ownsRow_nil _ _ _ _, hg⟩
theorem row_base {w : World} {b b' : Nat} {e : TypeId} {size n c : Nat} {A : Option Addr} {xs : List Value} (h : w.ownsRow b e size (.slice A n c) n xs) (hb : b' ≤ b) : w.ownsRow b' e size (.slice A n c) n xs := by
  refine ⟨h.1, ?_⟩
  rcases h.2 with ⟨h1, h2⟩ | ⟨g, cap, cur, h1, h2, h3⟩
  · exact .inl ⟨h1, h2⟩
  · exact .inr ⟨g, cap, cur, h1, Nat.le_trans hb h2, h3⟩
theorem run_store_int {P : Program} {w : World} {m : Mode} (a : Addr) (k : IntKind) (x : Int) : (store a (.int k x) m).run P w = stored P w a (.int k x) m := run_store P w a _ m rfl
theorem rok_take {P : List (List UInt8)} {k : Nat} (h : rok (P.take k) = true) (hk : k < P.length) (hp : (readT P[k]).2 = true) : rok (P.take (k + 1)) = true := by
  unfold rok at h ⊢
  rw [List.take_succ_eq_append_getElem hk, List.all_append, h]
  simp [hp]
theorem rok_bad {P : List (List UInt8)} {k : Nat} (hk : k < P.length) (hp : (readT P[k]).2 = false) : rok P = false := by
  unfold rok
  rw [List.all_eq_false]
  exact ⟨P[k], List.getElem_mem hk, by simp [hp]⟩
theorem bs_sz {P : List (List UInt8)} {N : Nat} (h : ∀ p ∈ P, p.length ≤ N) {k : Nat} (hk : k < P.length) : (bs P[k]).size ≤ N := by rw [bs_size]; exact h _ (List.getElem_mem hk)
attribute [local go_sem] run_store_int
set_option maxHeartbeats 1000000 in
set_option maxRecDepth 100000 in
theorem read_i (s : ByteArray) (w : World) (hs : s.size ≤ 1048576) (ht : TabW w) (he : ErrW w) (hm : MaxV w) :
    Calls Tryd.prog 30 #[.string s] w fun e w' => RdP w (RL s.data.toList) e w' := by
  by_cases hf : few s.data.toList
  · rw [RL_few hf]
    have HS := Lib.hid (split_go s w hs hf hm)
    have hn := PL_len hf
    have hpl := PL_le s.data.toList
    have hsz : s.data.toList.length = s.size := by simp
    rw [hsz] at hpl
    have HT := Lib.hid (And.intro ht he)
    clear hf hm ht he hsz
    generalize PL s.data.toList = P at *
    obtain ⟨i0, hi0, hz0, hz1, hz2⟩ := info_parts Go.Proofs.YthlfclnfkgiddaaDoor.listI.info64
    obtain ⟨n, hN⟩ : ∃ n, P.length = n := ⟨_, rfl⟩
    rw [hN] at HS hn
    have HNL := Lib.hid hN
    have HPL := Lib.hid hpl
    clear hpl
    go_enter Tryd.func30, Tryd.ntmps30
    go_wp2_with fail
    refine HS.out.mono ?_
    rintro e w1 ⟨A, rfl, hr, g1⟩
    have HR := Lib.hid hr
    clear hr
    go_wp2_with (at_make; refine wpList_make_full _ rfl _ _ _ rfl w1.heap.size 2 i0 (.int .i64 0) 1 Tryd.underlying57 hi0 hz0 hz1 _ _ _ _ n rfl rfl rfl rfl (by rw [hz2]; omega) (by unfold maxLen; omega) (Nat.le_refl _) ?_; intro w2 hown hg)
    have HG1 := Lib.hid g1
    clear g1
    go_loopw [23] (fun i wr => ∃ j : Nat, j ≤ n ∧ i = .int .i64 j ∧ wr.ownsRow w1.heap.size 2 1 (.slice (some ⟨w1.heap.size, 0, none⟩) n n) n (lst (mix (cl (rv P)) (fun _ => .int .i64 0) j) n) ∧ w1.grownBy wr none ∧ rok (P.take j) = true) (fun i _ => n - (intOf i).toNat)
    case atStart =>
      refine ⟨0, Nat.zero_le _, rfl, ?_, hg, rfl⟩
      rw [mix_zero, ← replicate_lst]
      rw [Nat.mul_one] at hown
      exact (toList_madeCells_one (.int .i64 0) n) ▸ hown
    case round =>
      obtain ⟨j, hj, rfl, hown, hg, hok⟩ := hrel
      by_cases hlt : j < n
      · have hjP : j < P.length := by rw [HNL.out]; exact hlt
        obtain ⟨ad, rfl, _, hc⟩ := (HR.out.kept0 hg (Nat.le_refl _)).at_ hlt
        rw [show P.getD j [] = P[j] by simp [List.getD, hjP]] at hc
        have hrd := fun w ht he => read_impl (bs P[j]) w (by have := bs_sz HPL.out hjP; omega) ht he
        rw [bs_list] at hrd
        obtain ⟨x, b, hxb⟩ : ∃ x b, readT P[j] = (x, b) := ⟨_, _, rfl⟩
        rw [hxb] at hrd
        dsimp only at hrd
        have HRD := Lib.hid (hrd _ (HT.out.1.kept (HG1.out.trans hg)) (HT.out.2.kept (HG1.out.trans hg)))
        have j0 : (0 : Int) ≤ (j : Int) := by omega
        have j1 : (j : Int) < (n : Int) := by omega
        cases b with
        | true =>
          have HOK := Lib.hid (rok_take hok hjP (by rw [hxb]))
          have hx : cl (rv P) j = .int .i64 x := by
            unfold cl rv
            simp [List.getD, hjP, hxb]
          have HX := Lib.hid hx
          have HO := Lib.hid (And.intro hown hg)
          generalize bs P[j] = T at *
          clear hrd hxb hok hown hg hx
          go_wp2_with fail
          refine HRD.out.mono ?_
          rintro e w3 ⟨rfl, g3⟩
          have hown := own_kept0 HO.out.1 g3
          have hcell := hown.cellAt j (by omega)
          rw [lst_get _ _ _ hlt] at hcell
          have hf := hown.frozenAt j
          obtain ⟨hs1, hs2⟩ := hown.stored j (.int .i64 x)
          rw [← HX.out, mix_set _ _ _ _ hlt, HX.out] at hs1
          have HS2 := Lib.hid (And.intro hs1 (gb_new (HO.out.2.trans g3) hs2 (by intro g e; injection e with e; omega)))
          clear hown hs1 hs2 g3
          go_wp2_with fail
          go_roundw
          case rel => exact ⟨j + 1, by omega, by go_num, HS2.out.1, HS2.out.2, HOK.out⟩
          case measure => simp [intOf]; omega
        | false =>
          have HB := Lib.hid (rok_bad hjP (by rw [hxb]))
          have HO := Lib.hid hg
          generalize bs P[j] = T at *
          clear hrd hxb hok hown hg
          go_wp2_with fail
          refine HRD.out.mono ?_
          rintro e w3 ⟨rfl, g3⟩
          have HG3 := Lib.hid g3
          clear g3
          go_wp2_with fail
          rw [RQ_no HB.out]
          go_ret2
          exact rdp_no _ _ (HG1.out.trans (HO.out.trans HG3.out))
      · obtain rfl : j = n := by omega
        rw [List.take_of_length_le (by rw [HNL.out]; exact Nat.le_refl _)] at hok
        have hlr : (rv P).length = j := by rw [rv_len]; exact HNL.out
        have HL := Lib.hid hlr
        have HO := Lib.hid (And.intro hown (And.intro hg hok))
        clear hown hg hok hlr
        go_wp2_with fail
        rw [RQ_yes HO.out.2.2]
        refine bodyPost_ret (v := .tuple #[.slice (some ⟨w1.heap.size, 0, none⟩) j j, .bool true]) (by simp [results, Tryd.results30, go_sem]) rfl ⟨some ⟨w1.heap.size, 0, none⟩, j, by dsimp only; rw [HL.out], ?_, HG1.out.trans HO.out.2.1⟩
        dsimp only
        rw [HL.out]
        have h5 := HO.out.1
        rw [mix_full] at h5
        exact row_base h5 HG1.out.size
  · rw [RL_many hf]
    have HS := Lib.hid (fun w => split_long s w (fun e => hf (.inl e)) (by by_cases hh : 64 < s.data.toList.count 44 + 1; exact hh; exact absurd (.inr hh) hf))
    clear hf hm ht he
    go_enter Tryd.func30, Tryd.ntmps30
    go_wp2_with fail
    refine (HS.out _).mono ?_
    rintro e w' ⟨rfl, rfl⟩
    go_wp2_with fail
    go_ret2
    exact rdp_no _ _ (World.grownBy.refl _ _)

end Go.Proofs.YthlfclnfkgiddaaDoor.readI
