/- The next jobs of beams, by the program. -/
import Derived.Test.YtbefoiikbbjjfaaRows
import Derived.Test.YtbefoiikbbjjfaaSlc
import Derived.Test.YtbefoiikbbjjfaaSmall
import Derived.Test.YtbefoiikbbjjfaaOpens
import Derived.Test.YtbefoiikbbjjfaaListI
import Derived.Test.YtbefoiikbbjjfaaNestI
import Derived.Test.YtbefoiikbbjjfaaBeams
import Derived.Test.YtbefoiikbbjjfaaListBeam
import Derived.Test.YtbefoiikbbjjfaaListDir
import Derived.Test.YtbefoiikbbjjfaaPlanNum
import Derived.Test.YtbefoiikbbjjfaaSwT
import Derived.Test.YtbefoiikbbjjfaaBeamsOk
import Derived.Test.YtbefoiikbbjjfaaPlanAll
import Derived.Test.YtbefoiikbbjjfaaFarF
import Derived.Test.YtbefoiikbbjjfaaNestG
import Derived.Test.YtbefoiikbbjjfaaHeapAll
import Derived.Test.YtbefoiikbbjjfaaPlanP
import Derived.Test.YtbefoiikbbjjfaaPlanQ
import Derived.WalkKit
import Derived.ProofKit
import Derived.OpenShut
import Derived.ShutString
import Derived.ChangeOld
import Derived.Below
import Derived.Lib.Hide
import Derived.BigQuiet
import Derived.Deep.QuietTactic
import Derived.WalkLawsBesides
import Derived.Outline
import Derived.BigRegion
import Derived.Deep.LoopGhost
import Derived.Deep.RegionHeld3
import Derived.Deep.RegionWith
import Derived.Maps.AppendAt
import Derived.RangeFuncBox
namespace Go.Proofs.Ytbefoiikbbjjfaa.jobsQ
open Go.ChangeShapes Go.WideShapes Go.ChangeAt Go.RowKit
open Go.ChangeMaps (open_string shut_string)
set_option linter.unusedVariables false
open Go Go.RowKit
open Go.Proofs.Ytbefoiikbbjjfaa.slc Go.Proofs.Ytbefoiikbbjjfaa.small Go.Proofs.Ytbefoiikbbjjfaa.opens Go.Proofs.Ytbefoiikbbjjfaa.beams Go.Proofs.Ytbefoiikbbjjfaa.listBeam Go.Proofs.Ytbefoiikbbjjfaa.planNum Go.Proofs.Ytbefoiikbbjjfaa.heapN Go.Proofs.Ytbefoiikbbjjfaa.heapM Go.Proofs.Ytbefoiikbbjjfaa.heapW Go.Proofs.Ytbefoiikbbjjfaa.heapU Go.Proofs.Ytbefoiikbbjjfaa.heapP Go.Proofs.Ytbefoiikbbjjfaa.planP Go.Proofs.Ytbefoiikbbjjfaa.planQ

/-- The next jobs in memory. -/
structure Js (w : World) (jb : Nat) (A0 : Option Addr) (n c0 : Nat) (C D : List Jb) (A1 : Option Addr) (c1 : Nat) (A2 : Option Addr) (c2 : Nat) : Prop where
  bm : w.cell? ⟨jb, 0, none⟩ = some (.slice A0 n c0)
  qc : heapU.Qu w jb 1 C A1 c1
  qd : heapU.Qu w jb 2 D A2 c2
  ap : ∀ b, A1.map Addr.block = some b → A2.map Addr.block ≠ some b
theorem qr_keep {w w' : World} {b : Nat} {L : List Jb} {A : Option Addr} {c : Nat} (h : Qr w b L A c) (hk : ∀ g, A.map Addr.block = some g → w'.heap[g]? = w.heap[g]?) : Qr w' b L A c := by
  refine ⟨h.1, ?_⟩
  rcases h.2 with h2 | ⟨g, cap, cur, h1, h2, h3, h4⟩
  · exact .inl h2
  · refine .inr ⟨g, cap, cur, h1, h2, ?_, h4⟩
    injection h1 with h1 _ _
    exact (hk g (by rw [h1]; rfl)).trans h3
section
variable {w w' : World} {jb n c0 c1 c2 c1' c2' : Nat} {A0 A1 A2 A1' A2' : Option Addr} {C D C' D' : List Jb}
theorem Js.one (h : Js w jb A0 n c0 C D A1 c1 A2 c2) (q : heapU.Qu w' jb 1 C' A1' c1') (t : Tu w w' jb 1 A1) (hA : A1'.map Addr.block = A1.map Addr.block ∨ ∃ g, A1'.map Addr.block = some g ∧ w.heap.size ≤ g) : Js w' jb A0 n c0 C' D A1' c1' A2 c2 := by
  have hb := own_base h.qd.row
  refine ⟨(t.cell 0 (by omega)).trans h.bm, q, ⟨(t.cell 2 (by omega)).trans h.qd.cell, (t.ice 2).trans h.qd.ice, qr_keep h.qd.row fun g e => t.block g (hb g e).2 (by have := (hb g e).1; omega) (fun e2 => h.ap g e2.symm e)⟩, fun b e e2 => ?_⟩
  rcases hA with e3 | ⟨g, e3, hg⟩
  · exact h.ap b (e3.symm.trans e) e2
  · have := (hb b e2).2
    rw [e3] at e
    injection e with e
    omega
theorem Js.two (h : Js w jb A0 n c0 C D A1 c1 A2 c2) (q : heapU.Qu w' jb 2 D' A2' c2') (t : Tu w w' jb 2 A2) (hA : A2'.map Addr.block = A2.map Addr.block ∨ ∃ g, A2'.map Addr.block = some g ∧ w.heap.size ≤ g) : Js w' jb A0 n c0 C D' A1 c1 A2' c2' := by
  have hb := own_base h.qc.row
  refine ⟨(t.cell 0 (by omega)).trans h.bm, ⟨(t.cell 1 (by omega)).trans h.qc.cell, (t.ice 1).trans h.qc.ice, qr_keep h.qc.row fun g e => t.block g (hb g e).2 (by have := (hb g e).1; omega) (fun e2 => h.ap g e e2.symm)⟩, q, fun b e e2 => ?_⟩
  rcases hA with e3 | ⟨g, e3, hg⟩
  · exact h.ap b e (e3.symm.trans e2)
  · have := (hb b e).2
    rw [e3] at e2
    injection e2 with e2
    omega
theorem Js.keep (h : Js w jb A0 n c0 C D A1 c1 A2 c2) (hg : w.grownBy w' none) : Js w' jb A0 n c0 C D A1 c1 A2 c2 := ⟨hg.cell h.bm (by simp), h.qc.keep hg, h.qd.keep hg, h.ap⟩
theorem Js.gb1 {w0 : World} (h : Js w jb A0 n c0 C D A1 c1 A2 c2) (hg : w0.grownBy w none) (hj : w0.heap.size ≤ jb) (t : Tu w w' jb 1 A1) : w0.grownBy w' none := t.gb hg hj fun g e => by have := (own_base h.qc.row g e).1; omega
theorem Js.gb2 {w0 : World} (h : Js w jb A0 n c0 C D A1 c1 A2 c2) (hg : w0.grownBy w none) (hj : w0.heap.size ≤ jb) (t : Tu w w' jb 2 A2) : w0.grownBy w' none := t.gb hg hj fun g e => by have := (own_base h.qd.row g e).1; omega
end
/-- A block of the call's own that holds a job. -/
def Kb (w : World) (b : Nat) (x y : Int) : Prop := w.ownsRow b 146 2 (.slice (some ⟨b, 0, none⟩) 1 1) 1 [.int .i64 x, .int .i64 y]
theorem Kb.new (w : World) (x y : Int) : Kb (w.alloc (.cells #[.int .i64 x, .int .i64 y] 146)) w.heap.size x y := World.ownsRow_lit w #[.int .i64 x, .int .i64 y] 1 (Nat.le_refl _) (by decide) rfl
theorem Kb.facts {w : World} {b : Nat} {x y : Int} (h : Kb w b x y) : w.cell? ⟨b, 0, none⟩ = some (.int .i64 x) ∧ w.cell? ⟨b, 1, none⟩ = some (.int .i64 y) ∧ w.frozen? ⟨b, 0, none⟩ = false ∧ w.frozen? ⟨b, 1, none⟩ = false :=
  ⟨h.cellAt 0 (by decide), h.cellAt 1 (by decide), h.frozenAt 0, h.frozenAt 1⟩
theorem Kb.put1 {w : World} {b : Nat} {x y : Int} (h : Kb w b x y) (x' : Int) : Kb (w.setCell ⟨b, 0, none⟩ (.int .i64 x')) b x' y ∧ w.grownBy (w.setCell ⟨b, 0, none⟩ (.int .i64 x')) (some b) := h.stored 0 (.int .i64 x')
/-- A change of a new block leaves the jobs as they were. -/
theorem Js.past {w w' : World} {jb n c0 c1 c2 q : Nat} {A0 A1 A2 : Option Addr} {C D : List Jb} (h : Js w jb A0 n c0 C D A1 c1 A2 c2) (hg : w.grownBy w' (some q)) (hj : q ≠ jb) (h1 : A1.map Addr.block ≠ some q) (h2 : A2.map Addr.block ≠ some q) : Js w' jb A0 n c0 C D A1 c1 A2 c2 := by
  have hjq : some jb ≠ some q := fun e => by injection e with e; exact hj e.symm
  have hlt := Qu.lt h.qc
  exact ⟨hg.cell h.bm hjq, ⟨hg.cell h.qc.cell hjq, (ice_by hg hlt hjq).trans h.qc.ice, qr_keep h.qc.row fun g e => hg.block g (own_base h.qc.row g e).2 (fun e2 => h1 (e.trans e2))⟩,
    ⟨hg.cell h.qd.cell hjq, (ice_by hg hlt hjq).trans h.qd.ice, qr_keep h.qd.row fun g e => hg.block g (own_base h.qd.row g e).2 (fun e2 => h2 (e.trans e2))⟩, h.ap⟩
/-- What changes of both queues leave as it was, and where their rows lie. -/
structure Tv (w w' : World) (jb : Nat) (A1 A2 A1' A2' : Option Addr) : Prop where
  size : w.heap.size ≤ w'.heap.size
  block : ∀ k, k < w.heap.size → k ≠ jb → some k ≠ A1.map Addr.block → some k ≠ A2.map Addr.block → w'.heap[k]? = w.heap[k]?
  f1 : ∀ b, A1'.map Addr.block = some b → A1.map Addr.block = some b ∨ w.heap.size ≤ b
  f2 : ∀ b, A2'.map Addr.block = some b → A2.map Addr.block = some b ∨ w.heap.size ≤ b
theorem Tv.by {w w' : World} (jb : Nat) (A1 A2 : Option Addr) (h : w.grownBy w' none) : Tv w w' jb A1 A2 A1 A2 := ⟨h.size, fun k hk _ _ _ => h.block k hk (by simp), fun b e => .inl e, fun b e => .inl e⟩
theorem Tv.trans {a b c : World} {jb : Nat} {A1 A2 B1 B2 C1 C2 : Option Addr} (h : Tv a b jb A1 A2 B1 B2) (k : Tv b c jb B1 B2 C1 C2) : Tv a c jb A1 A2 C1 C2 := by
  have hs := h.size
  refine ⟨Nat.le_trans h.size k.size, fun i hi h1 h2 h3 => ?_, fun r e => ?_, fun r e => ?_⟩
  · refine (k.block i (by omega) h1 (fun e => ?_) (fun e => ?_)).trans (h.block i hi h1 h2 h3)
    · rcases h.f1 i e.symm with e2 | e2
      · exact h2 e2.symm
      · omega
    · rcases h.f2 i e.symm with e2 | e2
      · exact h3 e2.symm
      · omega
  · rcases k.f1 r e with e2 | e2
    · exact h.f1 r e2
    · exact .inr (by omega)
  · rcases k.f2 r e with e2 | e2
    · exact h.f2 r e2
    · exact .inr (by omega)
theorem Tv.one {w w' : World} {jb : Nat} {A1 A1' : Option Addr} (A2 : Option Addr) (t : Tu w w' jb 1 A1) (hA : A1'.map Addr.block = A1.map Addr.block ∨ ∃ g, A1'.map Addr.block = some g ∧ w.heap.size ≤ g) : Tv w w' jb A1 A2 A1' A2 :=
  ⟨t.size, fun k hk h1 h2 _ => t.block k hk h1 h2, fun b e => by
    rcases hA with e2 | ⟨g, e2, hg⟩
    · exact .inl (e2.symm.trans e)
    · rw [e2] at e; injection e with e; exact .inr (by omega), fun b e => .inl e⟩
theorem Tv.two {w w' : World} {jb : Nat} {A2 A2' : Option Addr} (A1 : Option Addr) (t : Tu w w' jb 2 A2) (hA : A2'.map Addr.block = A2.map Addr.block ∨ ∃ g, A2'.map Addr.block = some g ∧ w.heap.size ≤ g) : Tv w w' jb A1 A2 A1 A2' :=
  ⟨t.size, fun k hk h1 _ h2 => t.block k hk h1 h2, fun b e => .inl e, fun b e => by
    rcases hA with e2 | ⟨g, e2, hg⟩
    · exact .inl (e2.symm.trans e)
    · rw [e2] at e; injection e with e; exact .inr (by omega)⟩
/-- What lies there when all that have come are admitted. -/
def After (bs : List Bm) (nx : Nat → Nat) (ck : Int) (jb : Nat) (A0 : Option Addr) (c0 : Nat) (w : World) (A1 A2 : Option Addr) (w0 w' : World) : Prop :=
  ∃ (C' D' : List Jb) (inD' : Nat → Bool) (A1' : Option Addr) (c1' : Nat) (A2' : Option Addr) (c2' : Nat), QS bs nx inD' C' D' ∧ Adm bs nx ck inD' ∧ Js w' jb A0 bs.length c0 C' D' A1' c1' A2' c2' ∧ w0.grownBy w' none ∧ Tv w w' jb A1 A2 A1' A2'
section
attribute [local go_sem] as_k
set_option maxHeartbeats 3200000 in
set_option maxRecDepth 100000 in
theorem admit_c (A0 : Option Addr) (c0 B jb : Nat) (bs : List Bm) (nx : Nat → Nat) (inD : Nat → Bool) (C D : List Jb) (A1 : Option Addr) (c1 : Nat) (A2 : Option Addr) (c2 : Nat) (ck : Int) (w0 w : World)
    (ha : ab bs = true) (hqs : QS bs nx inD C D) (hc : ∀ i, i < bs.length → com bs nx i ≤ 20000) (hin : ∀ k, k < bs.length → inD k = true → com bs nx k ≤ ck) (hj : Js w jb A0 bs.length c0 C D A1 c1 A2 c2) (hr : Rd w0 B A0 (bs.length * 4) (bcell bs)) (hB : B ≤ w0.heap.size) (hg : w0.grownBy w none) (hw : w0.heap.size ≤ jb) (hck : 0 ≤ ck) :
    Calls Try.prog 103 #[.pointer (some ⟨jb, 0, none⟩), .int .i64 ck] w fun e w' => e = .returned (.tuple #[]) ∧ After bs nx ck jb A0 c0 w A1 A2 w0 w' := by
  have HJ0 := Lib.hid (And.intro hqs (And.intro hj (And.intro hg hin)))
  clear hqs hj hg hin
  go_enter Try.func103, Try.ntmps103
  go_wp2_with fail
  go_loopg [] C.length (fun k wr => ∃ (C' D' : List Jb) (inD' : Nat → Bool) (A1' : Option Addr) (c1' : Nat) (A2' : Option Addr) (c2' : Nat), C'.length = k ∧ QS bs nx inD' C' D' ∧ Js wr jb A0 bs.length c0 C' D' A1' c1' A2' c2' ∧ w0.grownBy wr none ∧ (∀ k, k < bs.length → inD' k = true → com bs nx k ≤ ck) ∧ Tv w wr jb A1 A2 A1' A2')
  case atStart => exact ⟨C, D, inD, A1, c1, A2, c2, rfl, HJ0.out.1, HJ0.out.2.1, HJ0.out.2.2.1, HJ0.out.2.2.2, Tv.by jb A1 A2 (World.grownBy.refl w none)⟩
  case round =>
    obtain ⟨C', D', inD', A1', c1', A2', c2', hk, hqs, hj, hg, hin, htv⟩ := hrel
    have HTV := Lib.hid htv
    clear htv
    have h1 := hj.qc.cell
    by_cases h0 : C'.length = 0
    · have hadm : Adm bs nx ck inD' := fun k hk => by
        cases hd : inD' k with
        | true => exact (decide_eq_true (hin k hk hd)).symm
        | false =>
          have hx := (hqs.cm _).2 ⟨k, hk, hd, rfl⟩
          rw [List.eq_nil_of_length_eq_zero h0] at hx
          cases hx
      have HF := Lib.hid (And.intro hqs (And.intro hadm (And.intro hj hg)))
      rw [h0] at h1
      clear hqs hadm hj hg hin h0 hk
      go_wp2_with fail
      refine bodyPost_end (results_none rfl _ _ _) rfl ?_
      exact ⟨rfl, ⟨C', D', inD', A1', c1', A2', c2', HF.out.1, HF.out.2.1, HF.out.2.2.1, HF.out.2.2.2, HTV.out⟩⟩
    · obtain ⟨i, hi, hd, e, hm⟩ := hqs.head (by omega)
      obtain ⟨g, rfl, a0, _⟩ := hj.qc.row.at_ (show 0 < C'.length by omega)
      rw [Nat.zero_mul, e] at a0
      dsimp only at a0
      have l0 : (0 : Int) < (C'.length : Int) := by omega
      have l1 : 0 < C'.length := by omega
      have hlen := hqs.len
      have h8 := hqs.n8
      by_cases hcc : com bs nx i ≤ ck
      · have HPOP := Lib.hid (fun (w2 : World) (h2 : heapU.Qu w2 jb 1 C' (some ⟨g, 0, none⟩) c1') => pop_c jb 1 C' (some ⟨g, 0, none⟩) c1' w2 h2 l1 (by omega) hqs.cs hqs.ch)
        rw [e] at HPOP
        have HQS := Lib.hid (And.intro hqs (hqs.admit l1 hi hd e))
        have HJ := Lib.hid (And.intro hj (And.intro hg hin))
        have HIN2 := Lib.hid (fun (k : Nat) (hk : k < bs.length) (hd2 : (if k = i then true else inD' k) = true) => show com bs nx k ≤ ck from by
          by_cases ek : k = i
          · rw [ek]; exact hcc
          · rw [if_neg ek] at hd2; exact hin k hk hd2)
        have hci := hc i hi
        have hci0 : 0 ≤ com bs nx i := by unfold com; have := (ab_num ha hi).1; have h2 := (ab_num ha hi).2.2.1; exact Int.mul_nonneg (by omega) (by unfold ev; omega)
        have hev := (ab_num ha hi).2.2
        have hev0 : 1 ≤ (bg bs i).2.2.2 := Int.le_trans (ab_num ha hi).1 hev.1
        obtain ⟨ad, u, v, d, s, rfl, had, hbg, _, _, _, hc3⟩ := Rd.four (hr.kept0 hg hB) hi
        have hev2 : ev bs i = s := by unfold ev bg; rw [hbg]
        rw [show (bg bs i).2.2.2 = s from hev2] at hev hev0
        clear hqs hj hg hin hm hlen hbg hc3
        have HEV := Lib.hid hev2
        generalize hX : com bs nx i = X at *
        clear hX
        go_wp2_with fail
        unfold qv at HPOP
        refine (HPOP.out wr HJ.out.1.qc).mono ?_
        rintro e2 w1 ⟨rfl, q1, t1⟩
        have j1 := HJ.out.1.one q1 t1 (.inl rfl)
        have HTV1 := Lib.hid (HTV.out.trans (Tv.one A2' t1 (.inl rfl)))
        have g1 := HJ.out.1.gb1 HJ.out.2.1 hw t1
        have hjw1 := Qu.lt j1.qc
        have ga := World.grownBy_alloc w1 (.cells #[.int .i64 X, .int .i64 (i : Int)] 146) none
        have j2 := j1.keep ga
        have k2 := Kb.new w1 X (i : Int)
        have g2 := g1.trans ga
        have hb1 : ∀ b, Option.map Addr.block (some (⟨g, 0, none⟩ : Addr)) = some b → b < w1.heap.size := fun b e => (own_base j1.qc.row b e).2
        have hb2 : ∀ b, A2'.map Addr.block = some b → b < w1.heap.size := fun b e => (own_base j1.qd.row b e).2
        clear j1 g1 q1 t1 ga a0 h1
        have hc3 : (w1.alloc (.cells #[.int .i64 X, .int .i64 (i : Int)] 146)).cell? ⟨(ad.add (i * 4)).block, (ad.add (i * 4)).off + 3, none⟩ = some (.int .i64 s) := by
          obtain ⟨ad', u', v', d', s', e', _, hbg', _, _, _, h3⟩ := Rd.four (hr.kept0 g2 hB) hi
          injection e' with e'
          subst e'
          have : s' = s := by have := HEV.out; unfold ev bg at this; rw [hbg'] at this; exact this
          rw [this] at h3
          exact h3
        obtain ⟨x0, x1, x2, x3⟩ := k2.facts
        obtain ⟨k3, p3⟩ := k2.put1 (X + s)
        have j3 := j2.past p3 (by omega) (fun e => by have := hb1 _ e; omega) (fun e => by have := hb2 _ e; omega)
        have j4 := j3.keep (gb_drewN _ 1 none)
        have k4 := own_kept0 k3 (gb_drewN _ 1 none)
        have g4 := (gb_new g2 p3 (fun r e => by injection e with e; omega)).trans (gb_drewN _ 1 none)
        have hb0 := j2.bm
        have HG13 := Lib.hid (show w1.grownBy ((w1.alloc (.cells #[.int .i64 X, .int .i64 (i : Int)] 146)).setCell ⟨w1.heap.size, 0, none⟩ (.int .i64 (X + s))).drew none from (gb_new (World.grownBy_alloc w1 (.cells #[.int .i64 X, .int .i64 (i : Int)] 146) none) p3 (fun r e => by injection e with e; omega)).trans (gb_drewN _ 1 none))
        have HS := Lib.hid (show Js ((w1.alloc (.cells #[.int .i64 X, .int .i64 (i : Int)] 146)).setCell ⟨w1.heap.size, 0, none⟩ (.int .i64 (X + s))).drew jb (some ad) bs.length c0 (popF C') D' (some ⟨g, 0, none⟩) c1' A2' c2' ∧ Kb ((w1.alloc (.cells #[.int .i64 X, .int .i64 (i : Int)] 146)).setCell ⟨w1.heap.size, 0, none⟩ (.int .i64 (X + s))).drew w1.heap.size (X + s) (i : Int) ∧ w0.grownBy ((w1.alloc (.cells #[.int .i64 X, .int .i64 (i : Int)] 146)).setCell ⟨w1.heap.size, 0, none⟩ (.int .i64 (X + s))).drew none from And.intro j4 (And.intro k4 g4))
        have i0 : (0 : Int) ≤ (i : Int) := by omega
        have i1 : (i : Int) < (bs.length : Int) := by omega
        have HN2 := Lib.hid (And.intro (show w1.heap.size ≠ jb by omega) (show some w1.heap.size ≠ A2'.map Addr.block from fun e => by have := hb2 _ e.symm; omega))
        clear j2 k2 g2 k3 p3 j3 j4 k4 g4 hb1 hb2
        have hw64 : wrap64 (X + s) = X + s := by unfold wrap64; omega
        have hwi : IntKind.i64.wrap (X + s) = X + s := by rw [IntKind.wrap_i64]; omega
        go_wp2_with fail
        generalize (w1.alloc (.cells #[.int .i64 X, .int .i64 (i : Int)] 146)) = w2 at *
        go_region
        generalize hq1 : w1.heap.size = q1 at *
        generalize (w2.setCell ⟨q1, 0, none⟩ (.int .i64 (X + s))).drew = w3 at *
        obtain ⟨j3, k3, g3⟩ := HS.out
        obtain ⟨y0, y1, _, _⟩ := Kb.facts k3
        have j3d := j3.keep (gb_drewN w3 1 none)
        have hdl : D'.length < 99 := by have := HQS.out.1.len; have := HQS.out.1.n8; omega
        have HPU := push_c jb 2 D' A2' c2' (X + s, (i : Int)) w3.drew j3d.qd hdl
        unfold qv at HPU
        have HPU := Lib.hid HPU
        have HSJ := Lib.hid (And.intro j3d (g3.trans (gb_drewN w3 1 none)))
        clear x0 x1 x2 x3 hb0 hc3 HS j3 k3 g3 j3d hw64 hwi
        go_wp2_with fail
        go_region_held3 (fun w' => w'.cell? ⟨q1, 0, none⟩ = some (.int .i64 (X + s)) ∧ w'.cell? ⟨q1, 1, none⟩ = some (.int .i64 (i : Int)))
          (first
            | exact ⟨y0, y1⟩
            | exact ⟨z0, z1⟩)
          (first
            | (go_at_call 170; refine HPU.out.mono ?_; rintro e4 w4 ⟨rfl, A3, c3, q4, t4, hA4⟩; have zb := t4.block q1 (World.block_lt_of_cell? w3 _ y0) HN2.out.1 HN2.out.2; have z0 : w4.cell? ⟨q1, 0, none⟩ = some (.int .i64 (X + s)) := (by rw [← y0]; exact World.cell?_of_block zb); have z1 : w4.cell? ⟨q1, 1, none⟩ = some (.int .i64 (i : Int)) := (by rw [← y1]; exact World.cell?_of_block zb); have HT := Lib.hid (And.intro q4 (And.intro t4 hA4)); clear q4 t4 hA4))
        obtain ⟨j3d, g3d⟩ := HSJ.out
        obtain ⟨q4, t4, hA4⟩ := HT.out
        have j5 := j3d.two q4 t4 hA4
        have g5 := j3d.gb2 g3d hw t4
        obtain ⟨_, hp, hh, hl⟩ := pop_all l1 HQS.out.1.cs HQS.out.1.ch
        have hq6 := HQS.out.2
        rw [HEV.out] at hq6
        have HF := Lib.hid (And.intro hq6 (And.intro j5 g5))
        have hin2 := HJ.out.2.2
        have HTV5 := Lib.hid ((HTV1.out.trans (Tv.by jb _ A2' (HG13.out.trans (gb_drewN w3 1 none)))).trans (Tv.two _ t4 hA4))
        have hlp : (popF C').length < gk := by omega
        clear j3d g3d q4 t4 hA4 j5 g5 hq6 hp hh hl HPU z0 z1 zb y0 y1
        go_wp2_with fail
        go_roundg (popF C').length
        case measure => exact hlp
        case rel => exact ⟨popF C', _, _, some ⟨g, 0, none⟩, c1', A3, c3, rfl, HF.out.1, HF.out.2.1, HF.out.2.2, HIN2.out, HTV5.out⟩
      · have hadm : Adm bs nx ck inD' := fun k hk => by
          cases hd2 : inD' k with
          | true => exact (decide_eq_true (hin k hk hd2)).symm
          | false =>
            have := hm k hk hd2
            exact (decide_eq_false (by omega)).symm
        have HF := Lib.hid (And.intro hqs (And.intro hadm (And.intro hj hg)))
        clear hqs hadm hj hg hin hm e hd hk
        generalize com bs nx i = X at *
        go_wp2_with fail
        refine bodyPost_end (results_none rfl _ _ _) rfl ?_
        exact ⟨rfl, ⟨C', D', inD', _, c1', A2', c2', HF.out.1, HF.out.2.1, HF.out.2.2.1, HF.out.2.2.2, HTV.out⟩⟩
/-- What lies there when a job has been taken. -/
def Taken (bs : List Bm) (nx : Nat → Nat) (jb : Nat) (A0 : Option Addr) (c0 : Nat) (inD : Nat → Bool) (w : World) (A1 A2 : Option Addr) (w0 w' : World) : Prop :=
  ∃ (C' D' : List Jb) (A1' : Option Addr) (c1' : Nat) (A2' : Option Addr) (c2' : Nat), QS bs nx inD C' D' ∧ Js w' jb A0 bs.length c0 C' D' A1' c1' A2' c2' ∧ w0.grownBy w' none ∧ Tv w w' jb A1 A2 A1' A2'
set_option maxHeartbeats 3200000 in
set_option maxRecDepth 100000 in
theorem take_c (A0 : Option Addr) (c0 jb i : Nat) (bs : List Bm) (nx : Nat → Nat) (inD : Nat → Bool) (C D : List Jb) (A1 : Option Addr) (c1 : Nat) (A2 : Option Addr) (c2 : Nat) (w0 w : World)
    (hqs : QS bs nx inD C D) (h0 : 0 < D.length) (hi : i < bs.length) (hd : inD i = true) (e : jg D 0 = (com bs nx i + ev bs i, (i : Int))) (hj : Js w jb A0 bs.length c0 C D A1 c1 A2 c2) (hg : w0.grownBy w none) (hw : w0.heap.size ≤ jb) :
    Calls Try.prog 104 #[.pointer (some ⟨jb, 0, none⟩)] w fun e w' => e = .returned (.int .i64 i) ∧ Taken bs (upd nx i) jb A0 c0 (fun k => if k = i then false else inD k) w A1 A2 w0 w' := by
  have hlen := hqs.len
  have h8 := hqs.n8
  have HPOP := pop_c jb 2 D A2 c2 w hj.qd h0 (by omega) hqs.ds hqs.dh
  rw [e] at HPOP
  unfold qv at HPOP
  have HPOP := Lib.hid HPOP
  have HQS := Lib.hid (hqs.take h0 hi hd e)
  have HJ := Lib.hid (And.intro hj hg)
  clear hqs hj hg e
  generalize com bs nx i + ev bs i = X at *
  go_enter Try.func104, Try.ntmps104
  go_wp2_with fail
  refine HPOP.out.mono ?_
  rintro e2 w1 ⟨rfl, q1, t1⟩
  have j1 := HJ.out.1.two q1 t1 (.inl rfl)
  have HTV1 := Lib.hid (Tv.two (A2' := A2) A1 t1 (.inl rfl))
  have HGA := Lib.hid (World.grownBy_alloc w1 (.cells #[.int .i64 X, .int .i64 (i : Int)] 146) none)
  have g1 := HJ.out.1.gb2 HJ.out.2 hw t1
  have ga := World.grownBy_alloc w1 (.cells #[.int .i64 X, .int .i64 (i : Int)] 146) none
  have k2 := Kb.new w1 X (i : Int)
  have j2 := j1.keep ga
  have HN2 := Lib.hid (And.intro (show w1.heap.size ≠ jb from fun e => by have := Qu.lt j1.qc; omega) (show some w1.heap.size ≠ A1.map Addr.block from fun e => by have := (own_base j1.qc.row _ e.symm).2; omega))
  have HS := Lib.hid (And.intro j2 (And.intro k2 (g1.trans ga)))
  clear j1 g1 q1 t1 ga k2 j2 HJ HPOP
  go_wp2_with fail
  generalize hw2 : (w1.alloc (.cells #[.int .i64 X, .int .i64 (i : Int)] 146)) = w3 at *
  generalize hq1 : w1.heap.size = q1 at *
  obtain ⟨j3, k3, g3⟩ := HS.out
  obtain ⟨y0, y1, _, _⟩ := Kb.facts k3
  have j3d := j3.keep (gb_drewN w3 1 none)
  have HPU := push_c jb 1 C A1 c1 (X, (i : Int)) w3.drew j3d.qc (by omega)
  unfold qv at HPU
  have HPU := Lib.hid HPU
  have HSJ := Lib.hid (And.intro j3d (g3.trans (gb_drewN w3 1 none)))
  clear HS j3 k3 g3 j3d
  go_region_held3 (fun w' => w'.cell? ⟨q1, 0, none⟩ = some (.int .i64 X) ∧ w'.cell? ⟨q1, 1, none⟩ = some (.int .i64 (i : Int)))
    (first
      | exact ⟨y0, y1⟩
      | exact ⟨z0, z1⟩)
    (first
      | (go_at_call 170; refine HPU.out.mono ?_; rintro e4 w4 ⟨rfl, A3, c3, q4, t4, hA4⟩; have zb := t4.block q1 (World.block_lt_of_cell? w3 _ y0) HN2.out.1 HN2.out.2; have z0 : w4.cell? ⟨q1, 0, none⟩ = some (.int .i64 X) := (by rw [← y0]; exact World.cell?_of_block zb); have z1 : w4.cell? ⟨q1, 1, none⟩ = some (.int .i64 (i : Int)) := (by rw [← y1]; exact World.cell?_of_block zb); have HT := Lib.hid (And.intro q4 (And.intro t4 hA4)); clear q4 t4 hA4))
  obtain ⟨j3d, g3d⟩ := HSJ.out
  obtain ⟨q4, t4, hA4⟩ := HT.out
  have HTV5 := Lib.hid ((HTV1.out.trans (Tv.by jb A1 A2 (HGA.out.trans (gb_drewN w3 1 none)))).trans (Tv.one A2 t4 hA4))
  have HF := Lib.hid (And.intro (j3d.one q4 t4 hA4) (j3d.gb1 g3d hw t4))
  clear j3d g3d q4 t4 hA4
  go_wp2_with fail
  go_ret
  exact ⟨rfl, ⟨_, popF D, A3, c3, A2, c2, HQS.out, HF.out.1, HF.out.2, HTV5.out⟩⟩
end
/-- The jobs of the first k beams. -/
structure QP (k : Nat) (C : List Jb) : Prop where
  len : C.length = k
  nd : C.Nodup
  mem : ∀ x, x ∈ C ↔ ∃ i, i < k ∧ x = ((0 : Int), (i : Int))
  hp : Hp C k
theorem QP.zero : QP 0 [] := ⟨rfl, by simp, fun x => by simp, fun c _ h => absurd h (by omega)⟩
theorem QP.next {k : Nat} {C : List Jb} (h : QP k C) (hk : k < 7) : QP (k + 1) (upF (C ++ [((0 : Int), (k : Int))]) C.length) := by
  have hs : Sm C := fun x hx => by
    obtain ⟨i, hi, rfl⟩ := (h.mem x).1 hx
    show 0 ≤ (i : Int) ∧ (i : Int) < 8
    omega
  obtain ⟨hp, hh⟩ := push_all hs (x := ((0 : Int), (k : Int))) (by show 0 ≤ (k : Int) ∧ (k : Int) < 8; omega) (by rw [h.len]; exact h.hp)
  have hnot : ((0 : Int), (k : Int)) ∉ C := fun hx => by
    obtain ⟨i, hi, e⟩ := (h.mem _).1 hx
    have := congrArg Prod.snd e
    dsimp only at this
    omega
  refine ⟨by rw [up_len]; simp [h.len], hp.nodup_iff.2 (List.nodup_cons.2 ⟨hnot, h.nd⟩), fun x => ?_, by rw [h.len] at hh ⊢; exact hh⟩
  rw [hp.mem_iff, List.mem_cons, h.mem]
  constructor
  · rintro (rfl | ⟨i, hi, rfl⟩)
    · exact ⟨k, by omega, rfl⟩
    · exact ⟨i, by omega, rfl⟩
  · rintro ⟨i, hi, rfl⟩
    by_cases e : i = k
    · subst e; exact .inl rfl
    · exact .inr ⟨i, by omega, rfl⟩
theorem QP.all {bs : List Bm} {C : List Jb} (h : QP bs.length C) (h8 : bs.length ≤ 7) : QS bs (fun _ => 0) (fun _ => false) C [] := by
  have e : ∀ i, com bs (fun _ => 0) i = 0 := fun i => by unfold com; simp
  refine ⟨h8, by simp [h.len], h.nd, by simp, fun x => ?_, fun x => ?_, by rw [h.len]; exact h.hp, fun c _ hc => absurd hc (by simp)⟩
  · rw [h.mem]
    constructor
    · rintro ⟨i, hi, rfl⟩; exact ⟨i, hi, rfl, by rw [e]⟩
    · rintro ⟨i, hi, _, rfl⟩; exact ⟨i, hi, by rw [e]⟩
  · constructor
    · intro hx; cases hx
    · rintro ⟨i, hi, hd, _⟩; cases hd
theorem build_k (w : World) (x y : Int) : (Instr.build 146 #[(0, .int .i64 x), (1, .int .i64 y)]).run Try.prog w = .ok (.agg #[.int .i64 x, .int .i64 y]) w := run_build w 146 _ _ (by kernel_rfl)
theorem build_j (w : World) (A : Option Addr) (n c : Nat) : (Instr.build 144 #[(0, .slice A n c)]).run Try.prog w = .ok (.agg #[.slice A n c, .slice none 0 0, .slice none 0 0]) w := run_build w 144 _ _ (by kernel_rfl)
section
attribute [local go_sem] build_k build_j
set_option maxHeartbeats 3200000 in
set_option maxRecDepth 100000 in
theorem first_c (A0 : Option Addr) (c0 : Nat) (bs : List Bm) (w : World) (h8 : bs.length ≤ 7) :
    Calls Try.prog 102 #[.slice A0 bs.length c0] w fun e w' => e = .returned (.pointer (some ⟨w.heap.size, 0, none⟩)) ∧ ∃ (C : List Jb) (A1 : Option Addr) (c1 : Nat), QS bs (fun _ => 0) (fun _ => false) C [] ∧ Js w' w.heap.size A0 bs.length c0 C [] A1 c1 none 0 ∧ w.grownBy w' none := by
  have ga := World.grownBy_alloc w (.cells #[.slice A0 bs.length c0, .slice none 0 0, .slice none 0 0] 144) none
  have hrow := World.ownsRow_lit (base := w.heap.size) (e := 144) (size := 3) w #[.slice A0 bs.length c0, .slice none 0 0, .slice none 0 0] 1 (Nat.le_refl _) (by decide) rfl
  have j0 : Js (w.alloc (.cells #[.slice A0 bs.length c0, .slice none 0 0, .slice none 0 0] 144)) w.heap.size A0 bs.length c0 [] [] none 0 none 0 :=
    ⟨hrow.cellAt 0 (by decide), ⟨hrow.cellAt 1 (by decide), hrow.frozenAt 1, World.ownsRow_nil _ _ _ _⟩, ⟨hrow.cellAt 2 (by decide), hrow.frozenAt 2, World.ownsRow_nil _ _ _ _⟩, fun b e => by cases e⟩
  have HJ0 := Lib.hid (And.intro j0 ga)
  clear j0 hrow ga
  go_enter Try.func102, Try.ntmps102
  go_wp2_with fail
  go_loopw [10] (fun i wr => ∃ (k : Nat) (C : List Jb) (A1 : Option Addr) (c1 : Nat), k ≤ bs.length ∧ i = .int .i64 k ∧ QP k C ∧ Js wr w.heap.size A0 bs.length c0 C [] A1 c1 none 0 ∧ w.grownBy wr none) (fun i _ => bs.length - (intOf i).toNat)
  case atStart => exact ⟨0, [], none, 0, Nat.zero_le _, rfl, QP.zero, HJ0.out.1, HJ0.out.2⟩
  case round =>
    obtain ⟨k, C, A1, c1, hk, rfl, hqp, hj, hg⟩ := hrel
    by_cases hlt : k < bs.length
    · have HPU := push_c w.heap.size 1 C A1 c1 ((0 : Int), (k : Int)) wr hj.qc (by have := hqp.len; omega)
      unfold qv at HPU
      have HPU := Lib.hid HPU
      have HJ := Lib.hid (And.intro hj (And.intro hg hqp))
      have k0 : (0 : Int) ≤ (k : Int) := by omega
      have k1 : (k : Int) < (bs.length : Int) := by omega
      clear hj hg hqp
      go_wp2_with fail
      refine HPU.out.mono ?_
      rintro e w2 ⟨rfl, A3, c3, q, t, hA⟩
      have HF := Lib.hid (And.intro (HJ.out.1.one q t hA) (HJ.out.1.gb1 HJ.out.2.1 (Nat.le_refl _) t))
      have HQ := Lib.hid (HJ.out.2.2.next (by omega))
      clear q t hA
      go_wp2_with fail
      exact ⟨⟨k + 1, _, A3, c3, by omega, by go_num, HQ.out, HF.out.1, HF.out.2⟩, by simp [intOf]; omega⟩
    · obtain rfl : k = bs.length := by omega
      have HF := Lib.hid (And.intro (hqp.all h8) (And.intro hj hg))
      clear hqp hj hg
      go_wp2_with fail
      go_ret
      exact ⟨rfl, C, A1, c1, HF.out.1, HF.out.2.1, HF.out.2.2⟩
end

end Go.Proofs.Ytbefoiikbbjjfaa.jobsQ
