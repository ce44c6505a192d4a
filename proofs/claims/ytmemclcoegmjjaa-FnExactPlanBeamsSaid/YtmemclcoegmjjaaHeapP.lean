/- Queues of jobs in memory: push and pop. -/
import Derived.Test.YtmemclcoegmjjaaRows
import Derived.Test.YtmemclcoegmjjaaSlc
import Derived.Test.YtmemclcoegmjjaaSmall
import Derived.Test.YtmemclcoegmjjaaOpens
import Derived.Test.YtmemclcoegmjjaaHeapN
import Derived.Test.YtmemclcoegmjjaaHeapM
import Derived.Test.YtmemclcoegmjjaaHeapW
import Derived.Test.YtmemclcoegmjjaaHeapU
import Derived.Test.YtmemclcoegmjjaaListDir
import Derived.Test.YtmemclcoegmjjaaListI
import Derived.Test.YtmemclcoegmjjaaNestI
import Derived.Test.YtmemclcoegmjjaaPlanNum
import Derived.Test.YtmemclcoegmjjaaSwT
import Derived.Test.YtmemclcoegmjjaaBeamsOk
import Derived.Test.YtmemclcoegmjjaaPlanDue
import Derived.Test.YtmemclcoegmjjaaBeams
import Derived.Test.YtmemclcoegmjjaaListBeam
import Derived.Test.YtmemclcoegmjjaaFarF
import Derived.Test.YtmemclcoegmjjaaNestG
import Derived.WalkKit
import Derived.ProofKit
import Derived.OpenShut
import Derived.ShutString
import Derived.ChangeOld
import Derived.Below
import Derived.Lib.Hide
import Derived.BigQuiet
import Derived.Deep.QuietTactic
import Derived.WalkLawsBesides
import Derived.Outline
import Derived.Deep.QuietTactic
import Derived.BigQuiet
import Derived.BigRegion
import Derived.Deep.LoopGhost
import Derived.Deep.RegionHeld3
import Derived.Deep.RegionWith
import Derived.Maps.AppendAt
import Derived.RangeFuncBox
namespace Go.Proofs.Ytmemclcoegmjjaa.heapP
open Go.ChangeShapes Go.WideShapes Go.ChangeAt Go.RowKit
open Go.ChangeMaps (open_string shut_string)
set_option linter.unusedVariables false
open Go Go.RowKit
open Go.Proofs.Ytmemclcoegmjjaa.slc Go.Proofs.Ytmemclcoegmjjaa.small Go.Proofs.Ytmemclcoegmjjaa.opens Go.Proofs.Ytmemclcoegmjjaa.heapN Go.Proofs.Ytmemclcoegmjjaa.heapM Go.Proofs.Ytmemclcoegmjjaa.heapW Go.Proofs.Ytmemclcoegmjjaa.heapU

/-- What a change of one queue leaves as it was. -/
structure Tu (w w' : World) (pb pf : Nat) (A : Option Addr) : Prop where
  os : w'.os = w.os
  tape : w'.tape = w.tape
  output : w'.output = w.output
  size : w.heap.size ≤ w'.heap.size
  block : ∀ k, k < w.heap.size → k ≠ pb → some k ≠ A.map Addr.block → w'.heap[k]? = w.heap[k]?
  cell : ∀ i, i ≠ pf → w'.cell? ⟨pb, i, none⟩ = w.cell? ⟨pb, i, none⟩
  ice : ∀ i, w'.frozen? ⟨pb, i, none⟩ = w.frozen? ⟨pb, i, none⟩
theorem Tu.of {w w' : World} {pb pf : Nat} {A : Option Addr} (hg : w.grownBy w' (A.map Addr.block)) (hb : pb < w.heap.size) (hA : some pb ≠ A.map Addr.block) : Tu w w' pb pf A :=
  ⟨hg.os, hg.tape, hg.output, hg.size, fun k hk _ h => hg.block k hk h, fun i _ => World.cell?_of_block (hg.block pb hb hA), fun i => ice_by hg hb hA⟩
theorem Tu.trans {a b c : World} {pb pf : Nat} {A A' : Option Addr} (h : Tu a b pb pf A) (k : Tu b c pb pf A') (hA : A'.map Addr.block = A.map Addr.block ∨ ∃ g, A'.map Addr.block = some g ∧ a.heap.size ≤ g) : Tu a c pb pf A := by
  refine ⟨k.os.trans h.os, k.tape.trans h.tape, k.output.trans h.output, Nat.le_trans h.size k.size, fun i hi h1 h2 => ?_, fun i hi => (k.cell i hi).trans (h.cell i hi), fun i => (k.ice i).trans (h.ice i)⟩
  refine (k.block i (Nat.lt_of_lt_of_le hi h.size) h1 ?_).trans (h.block i hi h1 h2)
  rcases hA with e | ⟨g, e, hg⟩
  · rw [e]; exact h2
  · rw [e]; intro e2; injection e2 with e2; omega
theorem Tu.gb {w0 w w' : World} {pb pf : Nat} {A : Option Addr} (h : w0.grownBy w none) (k : Tu w w' pb pf A) (hp : w0.heap.size ≤ pb) (hA : ∀ g, A.map Addr.block = some g → w0.heap.size ≤ g) : w0.grownBy w' none :=
  ⟨k.os.trans h.os, k.tape.trans h.tape, k.output.trans h.output, Nat.le_trans h.size k.size, fun i hi _ => (k.block i (Nat.lt_of_lt_of_le hi h.size) (by omega) (fun e => by have := hA i e.symm; omega)).trans (h.block i hi (by simp))⟩
theorem Qu.lt {w : World} {pb pf : Nat} {L : List Jb} {A : Option Addr} {c : Nat} (h : heapU.Qu w pb pf L A c) : pb < w.heap.size := World.block_lt_of_cell? w _ h.cell
/-- Behind a store into the queue's cell. -/
theorem tu_cell {w : World} {pb pf : Nat} {v : Value} (A : Option Addr) (hp : pb < w.heap.size) : Tu w (w.setCell ⟨pb, pf, none⟩ v) pb pf A := by
  have hg : w.grownBy (w.setCell ⟨pb, pf, none⟩ v) (some pb) := ⟨rfl, rfl, rfl, (KeepsWalks.setCell w _ v).size, fun k _ hk => Below.heap_setCell _ _ _ k (fun e => hk (by rw [e]))⟩
  refine ⟨rfl, rfl, rfl, hg.size, fun k hk h1 _ => hg.block k hk (fun e => h1 (by injection e)), fun i hi => ?_, fun i => ?_⟩
  · exact World.cell?_setCell_other _ _ _ _ (by intro h; simp only [Addr.mk.injEq] at h; exact hi h.2.1.symm)
  · simp [World.frozen?_setCell]
theorem infoK : (Try.prog.info? 130).map (fun i => (i.zero, i.size, i.bytes)) = some (some (.agg #[.int .i64 0, .int .i64 0]), 2, 16) := by kernel_rfl
theorem app_q {w : World} {pb : Nat} {L : List Jb} {A : Option Addr} {c : Nat} (x : Jb) (h : Qr w (pb + 1) L A c) (hm : L.length < 100) (hb : pb < w.heap.size) :
    ∃ A' c' w', (nestG.appS #[126, 126] 126 #[.slice A L.length c, .slice (some ⟨w.heap.size, 0, none⟩) 1 1]).run Try.prog (w.alloc (.cells #[.int .i64 x.1, .int .i64 x.2] 130)).drew = .ok (.slice A' (L.length + 1) c') w' ∧
      Qr w' (pb + 1) (L ++ [x]) A' c' ∧ w.grownBy w' (A.map Addr.block) ∧ (A'.map Addr.block = A.map Addr.block ∨ ∃ g, A'.map Addr.block = some g ∧ w.heap.size ≤ g) := by
  obtain ⟨i0, hi0, hz0, hz1, hz2⟩ := info_parts infoK
  have g0 : w.grownBy (w.alloc (.cells #[.int .i64 x.1, .int .i64 x.2] 130)).drew none := (World.grownBy_alloc w (.cells #[.int .i64 x.1, .int .i64 x.2] 130) none).trans (gb_drewN _ 1 none)
  obtain ⟨v6, w6, hrun, r1, r2, _, r3⟩ := run_append_own_at (P := Try.prog) (w := (w.alloc (.cells #[.int .i64 x.1, .int .i64 x.2] 130)).drew) (pb + 1) 126 126 130 i0 (.agg #[.int .i64 0, .int .i64 0]) 2 16 Try.underlying126 hi0 hz0 hz1 hz2 rfl (by decide) _ _ _ (own_kept0 h g0) ⟨w.heap.size, 0, none⟩ 1 1 [.int .i64 x.1, .int .i64 x.2] rfl (World.news_of_block (cs := #[.int .i64 x.1, .int .i64 x.2]) (t := 130) (fr := (0, 0)) (heap_alloc_new w _)) (by intro u hu; simp at hu; rcases hu with rfl | rfl <;> rfl) (by unfold maxLen; omega) (by omega) (by have := g0.size; omega)
  obtain ⟨A6, c6, rfl⟩ := nestG.row_slice r1
  rw [own_blk] at r2
  rw [own_blk, own_blk] at r3
  refine ⟨A6, c6, w6, hrun, ?_, (gb_any g0 _).trans r2, ?_⟩
  · unfold Qr
    rw [listDir.pcell_snoc]
    simpa using r1
  · rcases r3 with r3 | r3
    · exact .inl r3
    · exact .inr ⟨_, r3, g0.size⟩
theorem as_k (v : Value) (w : World) : (Instr.typeAssert (.iface 130 v) 20 130 false).run Try.prog w = .ok v w := by kernel_rfl
section
attribute [local go_sem] as_k
attribute [local go_sem ↓] nestG.app_stop
set_option maxHeartbeats 1600000 in
set_option maxRecDepth 100000 in
theorem pushm_c (pb pf : Nat) (L : List Jb) (A : Option Addr) (c : Nat) (x : Jb) (w : World) (hq : heapU.Qu w pb pf L A c) (hm : L.length < 100) :
    Calls Try.prog 223 #[.pointer (some ⟨pb, pf, none⟩), .iface 130 (.agg #[.int .i64 x.1, .int .i64 x.2])] w fun e w' => e = .returned (.tuple #[]) ∧ ∃ A' c', heapU.Qu w' pb pf (L ++ [x]) A' c' ∧ Tu w w' pb pf A ∧ (A'.map Addr.block = A.map Addr.block ∨ ∃ g, A'.map Addr.block = some g ∧ w.heap.size ≤ g) := by
  obtain ⟨A', c', w6, hrun, hr, hg, hA⟩ := app_q x hq.row hm (Qu.lt hq)
  have hfar := far_q hq.row
  have hc := hq.cell
  have hc6 := hg.cell hc hfar
  have hi6 : w6.frozen? ⟨pb, pf, none⟩ = false := (ice_by hg (Qu.lt hq) hfar).trans hq.ice
  have hlt6 := Nat.lt_of_lt_of_le (Qu.lt hq) hg.size
  have hset : w6.grownBy (w6.setCell ⟨pb, pf, none⟩ (.slice A' (L.length + 1) c')) (some pb) := ⟨rfl, rfl, rfl, (KeepsWalks.setCell w6 _ _).size, fun k _ hk => Below.heap_setCell _ _ _ k (fun e => hk (by rw [e]))⟩
  have q6 : heapU.Qu (w6.setCell ⟨pb, pf, none⟩ (.slice A' (L.length + 1) c')) pb pf (L ++ [x]) A' c' := by
    refine ⟨?_, ?_, ?_⟩
    · rw [List.length_append, List.length_singleton]
      exact World.cell?_setCell_same _ _ _ hc6
    · rw [World.frozen?_setCell]; exact hi6
    · exact World.ownsRow.kept hr hset (.inr (fun e => far_q hr (by rw [own_blk] at e; exact e.symm)))
  have t6 : Tu w (w6.setCell ⟨pb, pf, none⟩ (.slice A' (L.length + 1) c')) pb pf A := (Tu.of hg (Qu.lt hq) hfar).trans (tu_cell A hlt6) (.inl rfl)
  have HF := Lib.hid (And.intro q6 (And.intro t6 hA))
  have hca := (World.grownBy_alloc w (.cells #[.int .i64 x.1, .int .i64 x.2] 130) none).cell hc (by simp)
  clear hq hr hg hA hfar hset q6 hlt6 t6
  go_enter Try.func223, Try.ntmps223
  go_wp2_with fail
  go_region
  all_goals
    refine bodyPost_end (results_none rfl _ _ _) rfl ?_
    exact ⟨rfl, A', c', HF.out.1, HF.out.2.1, HF.out.2.2⟩
/-- One job less at the end. -/
theorem row_cut2 {w : World} {b : Nat} {L : List Jb} {A : Option Addr} {c n : Nat} (h : Qr w b L A c) (hn : L.length = n + 1) : Qr w b (L.take n) A c := by
  have hl : (L.take n).length = n := by rw [List.length_take]; omega
  rcases h.2 with ⟨h1, _⟩ | ⟨g, cap, cur, h1, h2, h3, h4, h5, h6, h7⟩
  · injection h1 with _ h1 _; omega
  · injection h1 with h1 _ h8
    subst h1 h8
    unfold Qr
    rw [hl]
    have e : lst (pcell (L.take n)) (n * 2) = (lst (pcell L) (L.length * 2)).take (n * 2) := by
      apply List.ext_getElem?
      intro i
      rw [List.getElem?_take]
      by_cases hi : i < n * 2
      · rw [if_pos hi, lst_get _ _ _ hi, lst_get _ _ _ (by omega)]
        have e2 : (L.take n).getD (i / 2) (0, 0) = L.getD (i / 2) (0, 0) := by simp only [List.getD, List.getElem?_take, if_pos (show i / 2 < n by omega)]
        unfold pcell
        rw [e2]
      · rw [if_neg hi, List.getElem?_eq_none (by rw [lst_len]; omega)]
    refine ⟨by rw [lst_len], .inr ⟨g, c, cur, rfl, h2, h3, by omega, h5, h6, ?_⟩⟩
    rw [e, ← h7, List.take_take, show min (n * 2) (L.length * 2) = n * 2 by omega]
set_option maxHeartbeats 1600000 in
set_option maxRecDepth 100000 in
theorem popm_c (pb pf n : Nat) (L : List Jb) (A : Option Addr) (c : Nat) (w : World) (hq : heapU.Qu w pb pf L A c) (hn : L.length = n + 1) (hm : n < 100) :
    Calls Try.prog 222 #[.pointer (some ⟨pb, pf, none⟩)] w fun e w' => e = .returned (.iface 130 (.agg #[.int .i64 (jg L n).1, .int .i64 (jg L n).2])) ∧ heapU.Qu w' pb pf (L.take n) A c ∧ Tu w w' pb pf A := by
  obtain ⟨g, rfl, a0, a1⟩ := hq.row.at_ (show n < L.length by omega)
  have hcut := row_cut2 hq.row hn
  have hl : (L.take n).length = n := by rw [List.length_take]; omega
  have hc := hq.cell
  have hi := hq.ice
  have hcc := own_le hq.row
  rw [hn] at hc
  have ga := World.grownBy_alloc w (.cells #[.int .i64 (jg L n).1, .int .i64 (jg L n).2] 130) none
  have hca := ga.cell hc (by simp)
  have hia : (w.alloc (.cells #[.int .i64 (jg L n).1, .int .i64 (jg L n).2] 130)).frozen? ⟨pb, pf, none⟩ = false := (ice_by ga (Qu.lt hq) (by simp)).trans hi
  obtain ⟨x0, x1⟩ := boxed2 (World.grownBy.refl (w.alloc (.cells #[.int .i64 (jg L n).1, .int .i64 (jg L n).2] 130)) none)
  have hlt := Qu.lt hq
  have hlta := Nat.lt_of_lt_of_le hlt ga.size
  have hset : (w.alloc (.cells #[.int .i64 (jg L n).1, .int .i64 (jg L n).2] 130)).grownBy ((w.alloc (.cells #[.int .i64 (jg L n).1, .int .i64 (jg L n).2] 130)).setCell ⟨pb, pf, none⟩ (.slice (some ⟨g, 0, none⟩) n c)) (some pb) := ⟨rfl, rfl, rfl, (KeepsWalks.setCell _ _ _).size, fun k _ hk => Below.heap_setCell _ _ _ k (fun e => hk (by rw [e]))⟩
  have q6 : heapU.Qu ((w.alloc (.cells #[.int .i64 (jg L n).1, .int .i64 (jg L n).2] 130)).setCell ⟨pb, pf, none⟩ (.slice (some ⟨g, 0, none⟩) n c)) pb pf (L.take n) (some ⟨g, 0, none⟩) c := by
    refine ⟨?_, ?_, ?_⟩
    · rw [hl]
      exact World.cell?_setCell_same _ _ _ hca
    · rw [World.frozen?_setCell]; exact hia
    · exact World.ownsRow.kept (own_kept0 hcut ga) hset (.inr (fun e => far_q hq.row (by rw [own_blk] at e; exact e.symm)))
  have t6 : Tu w ((w.alloc (.cells #[.int .i64 (jg L n).1, .int .i64 (jg L n).2] 130)).setCell ⟨pb, pf, none⟩ (.slice (some ⟨g, 0, none⟩) n c)) pb pf (some ⟨g, 0, none⟩) := (Tu.of (gb_any ga _) hlt (far_q hq.row)).trans (tu_cell _ hlta) (.inl rfl)
  have hne : ¬ pb = w.heap.size := by omega
  have n0 : (0 : Int) ≤ (n : Int) := by omega
  have n1 : (n : Int) < ((n + 1 : Nat) : Int) := by omega
  have n2 : ((n + 1 : Nat) : Int) - 1 = (n : Int) := by omega
  have n3 : (n : Int) ≤ (c : Int) := by omega
  have n4 : n ≤ c := by omega
  have HF := Lib.hid (And.intro q6 t6)
  clear hq hcut hset q6 t6 ga hlta hlt
  generalize jg L n = x at *
  generalize hN : n + 1 = N at *
  go_enter Try.func222, Try.ntmps222
  go_wp2_with fail
  go_ret
  exact ⟨rfl, HF.out.1, HF.out.2⟩
end
theorem qu_up {w w' : World} {pb pf : Nat} {L M : List Jb} {A : Option Addr} {c : Nat} (h : heapU.Qu w pb pf L A c) (hr : Qr w' (pb + 1) M A c) (hl : M.length = L.length) (hg : w.grownBy w' (A.map Addr.block)) : heapU.Qu w' pb pf M A c :=
  ⟨by rw [hl]; exact hg.cell h.cell (far_q h.row), (ice_by hg (Qu.lt h) (far_q h.row)).trans h.ice, hr⟩
set_option maxHeartbeats 1600000 in
set_option maxRecDepth 100000 in
theorem push_c (pb pf : Nat) (L : List Jb) (A : Option Addr) (c : Nat) (x : Jb) (w : World) (hq : heapU.Qu w pb pf L A c) (hm : L.length < 99) :
    Calls Try.prog 147 #[qv pb pf, .iface 130 (.agg #[.int .i64 x.1, .int .i64 x.2])] w fun e w' => e = .returned (.tuple #[]) ∧ ∃ A' c', heapU.Qu w' pb pf (upF (L ++ [x]) L.length) A' c' ∧ Tu w w' pb pf A ∧ (A'.map Addr.block = A.map Addr.block ∨ ∃ g, A'.map Addr.block = some g ∧ w.heap.size ≤ g) := by
  have HP := Lib.hid (pushm_c pb pf L A c x w hq (by omega))
  have mp := fun n => m_push n ⟨pb, pf, none⟩ w
  clear hq
  unfold qv
  go_enter Try.func147, Try.ntmps147
  go_wp2_with fail
  refine HP.out.mono ?_
  rintro e w1 ⟨rfl, A', c', q1, t1, hA⟩
  have hl : (L ++ [x]).length = L.length + 1 := by simp
  have hc1 := q1.cell
  have HL := len_c (L ++ [x]) A' c' w1
  have HU := up_c pb pf (L.length + 1) (L ++ [x]) A' c' L.length w1 (by rw [← hl]; exact hc1) q1.row hl (by omega) (by omega)
  rw [hl] at hc1 HL
  have HL := Lib.hid HL
  have HU := Lib.hid HU
  have ml := fun n => m_len (w := w1) hc1 n
  have n2 : ((L.length + 1 : Nat) : Int) - 1 = (L.length : Int) := by omega
  have HQ := Lib.hid (And.intro q1 (And.intro t1 hA))
  clear q1 t1 hA mp HP
  generalize hN : L.length + 1 = N at *
  unfold qv at HU
  go_wp2_with fail
  refine HL.out.mono ?_
  rintro e w' ⟨rfl, rfl⟩
  go_wp2_with fail
  refine HU.out.mono ?_
  rintro e w2 ⟨rfl, r2, g2⟩
  obtain ⟨q1, t1, hA⟩ := HQ.out
  have q2 := qu_up q1 r2 (up_len _ _) g2
  have t2 := t1.trans (Tu.of g2 (Qu.lt q1) (far_q q1.row)) hA
  have HF := Lib.hid (And.intro q2 (And.intro t2 hA))
  clear q1 t1 hA q2 t2 r2 g2
  go_wp2_with fail
  refine bodyPost_end (results_none rfl _ _ _) rfl ?_
  exact ⟨rfl, A', c', HF.out.1, HF.out.2.1, HF.out.2.2⟩
set_option maxHeartbeats 1600000 in
set_option maxRecDepth 100000 in
theorem pop_c (pb pf : Nat) (L : List Jb) (A : Option Addr) (c : Nat) (w : World) (hq : heapU.Qu w pb pf L A c) (h0 : 0 < L.length) (hm : L.length ≤ 100) (hs : Sm L) (hh : Hp L L.length) :
    Calls Try.prog 148 #[qv pb pf] w fun e w' => e = .returned (.iface 130 (.agg #[.int .i64 (jg L 0).1, .int .i64 (jg L 0).2])) ∧ heapU.Qu w' pb pf (popF L) A c ∧ Tu w w' pb pf A := by
  obtain ⟨pj, _, _, _⟩ := pop_all h0 hs hh
  obtain ⟨n, hn⟩ : ∃ n, L.length = n + 1 := ⟨L.length - 1, by omega⟩
  have hpf : popF L = (downF (swp L 0 n) 0 n).take n := by unfold popF; rw [show L.length - 1 = n by omega]
  rw [show L.length - 1 = n by omega] at pj
  have hc := hq.cell
  have HL := len_c L A c w
  have HS := swap_c (pb + 1) L A c 0 n w hq.row h0 (by omega) hm
  rw [hn] at hc HL HS
  have HL := Lib.hid HL
  have HS := Lib.hid HS
  have ml := fun n => m_len (w := w) hc n
  have ms := fun n => m_swap (w := w) hc n
  have n2 : ((n + 1 : Nat) : Int) - 1 = (n : Int) := by omega
  have HQ := Lib.hid hq
  have HPJ := Lib.hid (And.intro pj hpf)
  clear hq pj hpf hs hh
  generalize hN : n + 1 = N at *
  rw [show ((0 : Nat) : Int) = 0 from rfl] at HS
  unfold qv
  go_enter Try.func148, Try.ntmps148
  go_wp2_with fail
  refine HL.out.mono ?_
  rintro e w' ⟨rfl, rfl⟩
  clear ml
  go_wp2_with fail
  refine HS.out.mono ?_
  rintro e w1 ⟨rfl, r1, g1⟩
  have q1 := qu_up HQ.out r1 (swp_len _ _ _) g1
  have t1 : Tu w w1 pb pf A := Tu.of g1 (Qu.lt HQ.out) (far_q HQ.out.row)
  have hc1 := q1.cell
  rw [swp_len, hn] at hc1
  have HD := down_c pb pf n N (swp L 0 n) A c 0 w1 hc1 q1.row (by rw [swp_len, hn]) (by omega) (by omega) (by omega)
  rw [show ((0 : Nat) : Int) = 0 from rfl] at HD
  unfold qv at HD
  have HD := Lib.hid HD
  have HQ1 := Lib.hid (And.intro q1 t1)
  clear r1 g1 q1 t1 ms HQ HS hc1
  go_wp2_with fail
  refine HD.out.mono ?_
  rintro e w2 ⟨b, rfl, r2, g2⟩
  have hdl : (downF (swp L 0 n) 0 n).length = (swp L 0 n).length := down_len n 0 _ _ (by omega)
  have q2 := qu_up HQ1.out.1 r2 hdl g2
  have t2 := HQ1.out.2.trans (Tu.of g2 (Qu.lt HQ1.out.1) (far_q HQ1.out.1.row)) (.inl rfl)
  have HP := popm_c pb pf n (downF (swp L 0 n) 0 n) A c w2 q2 (by rw [hdl, swp_len, hn, hN]) (by omega)
  rw [HPJ.out.1] at HP
  have HP := Lib.hid HP
  have mp := fun n => m_pop n ⟨pb, pf, none⟩ w2
  have HT := Lib.hid t2
  clear r2 g2 q2 t2 hdl HQ1 HD
  go_wp2_with fail
  refine HP.out.mono ?_
  rintro e w3 ⟨rfl, q3, t3⟩
  rw [← HPJ.out.2] at q3
  have HF := Lib.hid (And.intro q3 (HT.out.trans t3 (.inl rfl)))
  clear q3 t3
  go_wp2_with fail
  go_ret
  exact ⟨rfl, HF.out.1, HF.out.2⟩

end Go.Proofs.Ytmemclcoegmjjaa.heapP
