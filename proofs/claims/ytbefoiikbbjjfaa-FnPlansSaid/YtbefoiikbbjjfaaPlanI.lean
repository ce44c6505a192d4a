/- Plans by due ticks, by the program. -/
import Derived.Test.YtbefoiikbbjjfaaRows
import Derived.Test.YtbefoiikbbjjfaaSlc
import Derived.Test.YtbefoiikbbjjfaaSmall
import Derived.Test.YtbefoiikbbjjfaaOpens
import Derived.Test.YtbefoiikbbjjfaaListI
import Derived.Test.YtbefoiikbbjjfaaNestI
import Derived.Test.YtbefoiikbbjjfaaBeams
import Derived.Test.YtbefoiikbbjjfaaListBeam
import Derived.Test.YtbefoiikbbjjfaaListSlot
import Derived.Test.YtbefoiikbbjjfaaListDir
import Derived.Test.YtbefoiikbbjjfaaPlanNum
import Derived.Test.YtbefoiikbbjjfaaSwT
import Derived.Test.YtbefoiikbbjjfaaBeamsOk
import Derived.Test.YtbefoiikbbjjfaaPlanAll
import Derived.Test.YtbefoiikbbjjfaaFarF
import Derived.Test.YtbefoiikbbjjfaaNestG
import Derived.Test.YtbefoiikbbjjfaaHeapAll
import Derived.Test.YtbefoiikbbjjfaaPlanP
import Derived.Test.YtbefoiikbbjjfaaPlanQ
import Derived.Test.YtbefoiikbbjjfaaJobsQ
import Derived.WalkKit
import Derived.ProofKit
import Derived.OpenShut
import Derived.ShutString
import Derived.ChangeOld
import Derived.Below
import Derived.Lib.Hide
import Derived.BigQuiet
import Derived.Deep.QuietTactic
import Derived.WalkLawsBesides
import Derived.Outline
import Derived.BigRegion
import Derived.Deep.LoopGhost
import Derived.Deep.RegionHeld3
import Derived.Deep.RegionWith
import Derived.Maps.AppendAt
import Derived.RangeFuncBox
import Derived.WalkMore
import Derived.ScopeJumps
import Derived.Deep.DeepCutAuto
namespace Go.Proofs.Ytbefoiikbbjjfaa.planI
open Go.ChangeShapes Go.WideShapes Go.ChangeAt Go.RowKit
open Go.ChangeMaps (open_string shut_string)
set_option linter.unusedVariables false
open Go Go.RowKit
open Go.Proofs.Ytbefoiikbbjjfaa.slc Go.Proofs.Ytbefoiikbbjjfaa.small Go.Proofs.Ytbefoiikbbjjfaa.opens Go.Proofs.Ytbefoiikbbjjfaa.beams Go.Proofs.Ytbefoiikbbjjfaa.listBeam Go.Proofs.Ytbefoiikbbjjfaa.planNum Go.Proofs.Ytbefoiikbbjjfaa.beamsOk Go.Proofs.Ytbefoiikbbjjfaa.planDue Go.Proofs.Ytbefoiikbbjjfaa.heapN Go.Proofs.Ytbefoiikbbjjfaa.heapU Go.Proofs.Ytbefoiikbbjjfaa.heapP Go.Proofs.Ytbefoiikbbjjfaa.planP Go.Proofs.Ytbefoiikbbjjfaa.planQ Go.Proofs.Ytbefoiikbbjjfaa.jobsQ

/-- A scope with jumps back to one label: what a pass does serves the first one too. -/
theorem scope_jumps2 {P : Program} {a : Act} {w : World} {Q : Exit → Act → World → Prop} {c X : Code} (l : Nat) (J : Act → World → Prop) (μ : Act → World → Nat) (hf : findLabel c l = some (Code.skip.seq X))
    (pass : ∀ a w, J a w → X.wp P (Exit.jump l (fun a' w' => J a' w' ∧ μ a' w' < μ a w) Q) a w)
    (first : (∀ a w, J a w → X.wp P (Exit.jump l J Q) a w) → c.wp P (Exit.jump l J Q) a w) : (Code.scope c).wp P Q a w :=
  wp_scope_jumps l J μ hf (first fun a w h => wp_mono (pass a w h) (fun e a' w' h2 => by
    cases e <;> first | exact h2 | exact ⟨h2.1, h2.2.1⟩)) (fun a w h => wp_seq (wp_skip (pass a w h)))
theorem row_keep {w w' : World} {b : Nat} {e : TypeId} {size n c : Nat} {A : Option Addr} {xs : List Value} (h : w.ownsRow b e size (.slice A n c) n xs) (hk : ∀ g, A.map Addr.block = some g → w'.heap[g]? = w.heap[g]?) : w'.ownsRow b e size (.slice A n c) n xs := by
  refine ⟨h.1, ?_⟩
  rcases h.2 with h2 | ⟨g, cap, cur, h1, h2, h3, h4⟩
  · exact .inl h2
  · refine .inr ⟨g, cap, cur, h1, h2, ?_, h4⟩
    injection h1 with h1 _ _
    exact (hk g (by rw [h1]; rfl)).trans h3
/-- What lies there between two jobs. -/
structure In0 (bs : List Bm) (un : Int) (R : List Sl) (A0 : Option Addr) (c0 : Nat) (w : World) (jb : Nat) (wr : World) (out : List Sl) (O : Option Addr) (d : Nat) (ck : Int) (nx : Nat → Nat) (inD : Nat → Bool) (C D : List Jb) (A1 : Option Addr) (c1 : Nat) (A2 : Option Addr) (c2 : Nat) : Prop where
  qs : QS bs nx inD C D
  hin : ∀ k, k < bs.length → inD k = true → com bs nx k ≤ ck
  pi : PI bs nx ck out
  tell : Tell bs un nx ck out R
  js : Js wr jb A0 bs.length c0 C D A1 c1 A2 c2
  row : wr.ownsRow (jb + 1) 69 2 (.slice O out.length d) out.length (lst (pcell out) (out.length * 2))
  sep : ∀ b, O.map Addr.block = some b → A1.map Addr.block ≠ some b ∧ A2.map Addr.block ≠ some b
  gb : w.grownBy wr none
def In (bs : List Bm) (un : Int) (R : List Sl) (A0 : Option Addr) (c0 : Nat) (w : World) (jb : Nat) (wr : World) (out : List Sl) (O : Option Addr) (d : Nat) (ck : Int) : Prop :=
  ∃ (nx : Nat → Nat) (inD : Nat → Bool) (C D : List Jb) (A1 : Option Addr) (c1 : Nat) (A2 : Option Addr) (c2 : Nat), In0 bs un R A0 c0 w jb wr out O d ck nx inD C D A1 c1 A2 c2
/-- The slots lie there as before behind a change of the queues. -/
theorem slots_past {w w' : World} {jb d : Nat} {O A1 A2 A1' A2' : Option Addr} {out : List Sl} (h : w.ownsRow (jb + 1) 69 2 (.slice O out.length d) out.length (lst (pcell out) (out.length * 2))) (hs : ∀ b, O.map Addr.block = some b → A1.map Addr.block ≠ some b ∧ A2.map Addr.block ≠ some b) (t : Tv w w' jb A1 A2 A1' A2') :
    w'.ownsRow (jb + 1) 69 2 (.slice O out.length d) out.length (lst (pcell out) (out.length * 2)) ∧ ∀ b, O.map Addr.block = some b → A1'.map Addr.block ≠ some b ∧ A2'.map Addr.block ≠ some b := by
  have hb := own_base h
  refine ⟨row_keep h fun g e => t.block g (hb g e).2 (by have := (hb g e).1; omega) (fun e2 => (hs g e).1 e2.symm) (fun e2 => (hs g e).2 e2.symm), fun b e => ⟨fun e2 => ?_, fun e2 => ?_⟩⟩
  · rcases t.f1 b e2 with e3 | e3
    · exact (hs b e).1 e3
    · have := (hb b e).2; omega
  · rcases t.f2 b e2 with e3 | e3
    · exact (hs b e).2 e3
    · have := (hb b e).2; omega
/-- A block of the call's own that holds a slot. -/
def Sb (w : World) (b : Nat) (x y : Int) : Prop := w.ownsRow b 69 2 (.slice (some ⟨b, 0, none⟩) 1 1) 1 [.int .i64 x, .int .i64 y]
theorem Sb.new (w : World) (x y : Int) : Sb (w.alloc (.cells #[.int .i64 x, .int .i64 y] 69)) w.heap.size x y := World.ownsRow_lit w #[.int .i64 x, .int .i64 y] 1 (Nat.le_refl _) (by decide) rfl
theorem Sb.facts {w : World} {b : Nat} {x y : Int} (h : Sb w b x y) : w.cell? ⟨b, 0, none⟩ = some (.int .i64 x) ∧ w.cell? ⟨b, 1, none⟩ = some (.int .i64 y) ∧ w.frozen? ⟨b, 1, none⟩ = false := ⟨h.cellAt 0 (by decide), h.cellAt 1 (by decide), h.frozenAt 1⟩
theorem Sb.put {w : World} {b : Nat} {x y : Int} (h : Sb w b x y) (y' : Int) : Sb (w.setCell ⟨b, 1, none⟩ (.int .i64 y')) b x y' ∧ w.grownBy (w.setCell ⟨b, 1, none⟩ (.int .i64 y')) (some b) := h.stored 1 (.int .i64 y')
theorem infoS : (Try.prog.info? 69).map (fun i => (i.zero, i.size, i.bytes)) = some (some (.agg #[.int .i64 0, .int .i64 0]), 2, 16) := by kernel_rfl
theorem row_base {w : World} {b b' : Nat} {e : TypeId} {size n c : Nat} {A : Option Addr} {xs : List Value} (h : w.ownsRow b e size (.slice A n c) n xs) (hb : b' ≤ b) : w.ownsRow b' e size (.slice A n c) n xs := by
  refine ⟨h.1, ?_⟩
  rcases h.2 with h2 | ⟨g, cap, cur, h1, h2, h3⟩
  · exact .inl h2
  · exact .inr ⟨g, cap, cur, h1, Nat.le_trans hb h2, h3⟩
theorem js_by {w w' : World} {jb n c0 c1 c2 : Nat} {A0 A1 A2 B : Option Addr} {C D : List Jb} (h : Js w jb A0 n c0 C D A1 c1 A2 c2) (hg : w.grownBy w' (B.map Addr.block)) (hB : ∀ b, B.map Addr.block = some b → b ≠ jb ∧ A1.map Addr.block ≠ some b ∧ A2.map Addr.block ≠ some b) : Js w' jb A0 n c0 C D A1 c1 A2 c2 := by
  cases hb : B.map Addr.block with
  | none => rw [hb] at hg; exact h.keep hg
  | some b => rw [hb] at hg; obtain ⟨x, y, z⟩ := hB b hb; exact h.past hg x y z
theorem sb_by {w w' : World} {q : Nat} {x y : Int} {r : Option Nat} (h : Sb w q x y) (hg : w.grownBy w' r) (hr : r ≠ some q) : Sb w' q x y := row_keep h fun g e => by
  injection e with e
  subst e
  exact hg.block q (World.block_lt_of_cell? w _ h.facts.1) (fun e => hr e.symm)
/-- What lies there around a slot. -/
structure MidS (w : World) (jb : Nat) (A : Option Addr) (n c : Nat) (C D : List Jb) (A3 : Option Addr) (c3 : Nat) (A4 : Option Addr) (c4 : Nat) (out : List Sl) (O : Option Addr) (d : Nat) (q : Nat) (x y : Int) (wx : World) : Prop where
  sb : Sb wx q x y
  js : Js wx jb A n c C D A3 c3 A4 c4
  gb : w.grownBy wx none
  row : wx.ownsRow (jb + 1) 69 2 (.slice O out.length d) out.length (lst (pcell out) (out.length * 2))
  qj : q ≠ jb
  q3 : A3.map Addr.block ≠ some q
  q4 : A4.map Addr.block ≠ some q
  qO : O.map Addr.block ≠ some q
  qw : w.heap.size ≤ q
section
variable {w : World} {jb n c c3 c4 d q : Nat} {A A3 A4 O : Option Addr} {C D : List Jb} {out : List Sl} {x y : Int} {wx : World}
theorem MidS.keep {wy : World} (h : MidS w jb A n c C D A3 c3 A4 c4 out O d q x y wx) (hg : wx.grownBy wy none) : MidS w jb A n c C D A3 c3 A4 c4 out O d q x y wy :=
  ⟨own_kept0 h.sb hg, h.js.keep hg, h.gb.trans hg, own_kept0 h.row hg, h.qj, h.q3, h.q4, h.qO, h.qw⟩
theorem MidS.put (h : MidS w jb A n c C D A3 c3 A4 c4 out O d q x y wx) (y' : Int) : MidS w jb A n c C D A3 c3 A4 c4 out O d q x y' (wx.setCell ⟨q, 1, none⟩ (.int .i64 y')) := by
  obtain ⟨p1, p2⟩ := h.sb.put y'
  have hw := h.qw
  exact ⟨p1, h.js.past p2 h.qj h.q3 h.q4, gb_new h.gb p2 (fun g e => by injection e with e; omega), row_keep h.row (fun g e => p2.block g (own_base h.row g e).2 (fun e2 => h.qO (e.trans e2))), h.qj, h.q3, h.q4, h.qO, h.qw⟩
/-- One slot more. -/
theorem MidS.app (h : MidS w jb A n c C D A3 c3 A4 c4 out O d q x y wx) (sep : ∀ b, O.map Addr.block = some b → A3.map Addr.block ≠ some b ∧ A4.map Addr.block ≠ some b) (hm : out.length < 200) (hjb : w.heap.size ≤ jb) {out2 : List Sl} (h2 : out2 = out ++ [(x, y)]) :
    ∃ O' d' w6, (nestG.appS #[52, 52] 52 #[.slice O out.length d, .slice (some ⟨wx.heap.size, 0, none⟩) 1 1]).run Try.prog (wx.alloc (.cells #[.int .i64 x, .int .i64 y] 69)).drew = .ok (.slice O' out2.length d') w6 ∧
      MidS w jb A n c C D A3 c3 A4 c4 out2 O' d' q x y w6 ∧ (∀ b, O'.map Addr.block = some b → A3.map Addr.block ≠ some b ∧ A4.map Addr.block ≠ some b) := by
  obtain ⟨i0, hi0, hz0, hz1, hz2⟩ := info_parts infoS
  have g0 : wx.grownBy (wx.alloc (.cells #[.int .i64 x, .int .i64 y] 69)).drew none := (World.grownBy_alloc wx (.cells #[.int .i64 x, .int .i64 y] 69) none).trans (gb_drewN _ 1 none)
  have hlt := Qu.lt h.js.qc
  obtain ⟨v6, w6, hrun, r1, r2, _, r3⟩ := run_append_own_at (P := Try.prog) (w := (wx.alloc (.cells #[.int .i64 x, .int .i64 y] 69)).drew) (jb + 1) 52 52 69 i0 (.agg #[.int .i64 0, .int .i64 0]) 2 16 Try.underlying52 hi0 hz0 hz1 hz2 rfl (by decide) _ _ _ (own_kept0 h.row g0) ⟨wx.heap.size, 0, none⟩ 1 1 [.int .i64 x, .int .i64 y] rfl (World.news_of_block (cs := #[.int .i64 x, .int .i64 y]) (t := 69) (fr := (0, 0)) (heap_alloc_new wx _)) (by intro u hu; simp at hu; rcases hu with rfl | rfl <;> rfl) (by unfold maxLen; omega) (by omega) (by have := g0.size; omega)
  obtain ⟨A6, c6, rfl⟩ := nestG.row_slice r1
  rw [own_blk] at r2
  rw [own_blk, own_blk] at r3
  have hl2 : out2.length = out.length + 1 := by rw [h2, List.length_append, List.length_singleton]
  have r2 : wx.grownBy w6 (O.map Addr.block) := (gb_any g0 _).trans r2
  have hob := own_base h.row
  have hql := World.block_lt_of_cell? wx _ h.sb.facts.1
  have hql : q < wx.heap.size := hql
  have hc := own_base h.js.qc.row
  have hd := own_base h.js.qd.row
  have h3' : ∀ b, A6.map Addr.block = some b → O.map Addr.block = some b ∨ wx.heap.size ≤ b := fun b e => by
    rcases r3 with r3 | r3
    · exact .inl (r3.symm.trans e)
    · rw [r3] at e; injection e with e; subst e; exact .inr g0.size
  refine ⟨A6, c6, w6, by rw [hl2]; exact hrun, ⟨sb_by h.sb r2 h.qO, js_by h.js r2 (fun b e => ⟨by have := (hob b e).1; omega, sep b e⟩), gb_new h.gb r2 (fun g e => by have := (hob g e).1; omega), ?_, h.qj, h.q3, h.q4, fun e => ?_, h.qw⟩, fun b e => ?_⟩
  · rw [h2, listDir.pcell_snoc]
    simpa using r1
  · rcases h3' q e with e2 | e2
    · exact h.qO e2
    · omega
  · rcases h3' b e with e2 | e2
    · exact sep b e2
    · exact ⟨fun e3 => by have := (hc b e3).2; omega, fun e3 => by have := (hd b e3).2; omega⟩
end
def slN : Value → Nat | .slice _ n _ => n | _ => 0
def mu (a : Act) (_ : World) : Nat := (200 - slN (a.tmps.getD 6 undef)) * 30000 + (20001 - intOf (a.tmps.getD 8 undef)).toNat
/-- The frame at a jump. -/
def JJ (bs : List Bm) (un : Int) (R : List Sl) (A : Option Addr) (c : Nat) (w : World) (jb : Nat) (a : Act) (wr : World) : Prop :=
  ∃ (out : List Sl) (O : Option Addr) (d : Nat) (ck : Int) (u2 u3 u9 u10 u11 u12 u13 u14 u15 u16 u17 u18 u19 u20 u21 u22 u23 u24 u25 u26 u27 u28 u29 u30 u31 u32 u33 u34 u35 u36 u37 u38 u39 u40 u41 u42 u43 u44 u45 u46 u47 u48 u49 u50 u51 u52 u53 u54 u55 u56 u57 u58 u59 u60 u61 u62 u63 u64 u65 u66 u67 u68 u69 u70 u71 u72 u73 : Value), a = { tmps := #[.slice A bs.length c, .int .i64 un, u2, u3, .slice none 0 0, .bool false, .slice O out.length d, .pointer (some ⟨jb, 0, none⟩), .int .i64 ck, u9, u10, u11, u12, u13, u14, u15, u16, u17, u18, u19, u20, u21, u22, u23, u24, u25, u26, u27, u28, u29, u30, u31, u32, u33, u34, u35, u36, u37, u38, u39, u40, u41, u42, u43, u44, u45, u46, u47, u48, u49, u50, u51, u52, u53, u54, u55, u56, u57, u58, u59, u60, u61, u62, u63, u64, u65, u66, u67, u68, u69, u70, u71, u72, u73], defers := [] } ∧ In bs un R A c w jb wr out O d ck
attribute [local go_sem ↓] nestG.app_stop
set_option maxHeartbeats 3200000 in
set_option maxRecDepth 100000 in
theorem plan_impl (A : Option Addr) (c B : Nat) (bs : List Bm) (un : Int) (w : World) (hm : bs.length ≤ 9223372036854775807) (hr : Rd w B A (bs.length * 4) (bcell bs)) (hB : B ≤ w.heap.size) :
    Calls Try.prog 27 #[.slice A bs.length c, .int .i64 un] w fun e w' => ∃ O d, e = .returned (.tuple #[.slice O (PB bs un).length d, .bool (pok bs un)]) ∧ w'.ownsRow w.heap.size 69 2 (.slice O (PB bs un).length d) (PB bs un).length (lst (pcell (PB bs un)) ((PB bs un).length * 2)) ∧ w.grownBy w' none := by
  have HA0 := are_impl A c B bs w hm hr hB
  cases ha : ab bs
  · obtain ⟨e1, e2⟩ := PB_no (un := un) (.inl ha)
    rw [e1, e2]
    rw [ha] at HA0
    have HA := Lib.hid HA0
    clear HA0 hr ha e1 e2
    go_enter Try.func27, Try.ntmps27
    go_wp2_with fail
    go_step3
    go_wp2_with fail
    refine HA.out.mono ?_
    rintro e w1 ⟨rfl, g1⟩
    go_wp2_with fail
    rw [Exit.noGoto_ret]
    exact bodyPost_ret (v := .tuple #[.slice none 0 0, .bool false]) (by simp [results, Try.results27, go_sem]) rfl ⟨none, 0, rfl, World.ownsRow_nil _ _ _ _, g1⟩
  · rw [ha] at HA0
    have HA := Lib.hid HA0
    by_cases hu : 0 ≤ un ∧ un ≤ 10000
    · have hk := BsOk.of ha
      obtain ⟨l1, l7⟩ := ab_len ha
      have HT := Lib.hid (PB_yes ha hu)
      have HPL := Lib.hid (PB_len bs un)
      rw [pok_yes ha hu]
      generalize PB bs un = R at *
      have HR := Lib.hid hr
      have HAB := Lib.hid ha
      have HK := Lib.hid hk
      have HF := Lib.hid (fun w => first_c A c bs w l7)
      clear HA0 hr ha hk
      go_enter Try.func27, Try.ntmps27
      go_wp2_with fail
      refine scope_jumps2 0 (fun a w' => ∃ jb, w.heap.size ≤ jb ∧ JJ bs un R A c w jb a w') mu rfl ?_ ?_
      · rintro a0 wr ⟨jb, hjb, out, O, d, ck, u2, u3, u9, u10, u11, u12, u13, u14, u15, u16, u17, u18, u19, u20, u21, u22, u23, u24, u25, u26, u27, u28, u29, u30, u31, u32, u33, u34, u35, u36, u37, u38, u39, u40, u41, u42, u43, u44, u45, u46, u47, u48, u49, u50, u51, u52, u53, u54, u55, u56, u57, u58, u59, u60, u61, u62, u63, u64, u65, u66, u67, u68, u69, u70, u71, u72, u73, rfl, nx, inD, C, D, A1, c1, A2, c2, hin⟩
        have HADM := Lib.hid (admit_c A c B jb bs nx inD C D A1 c1 A2 c2 ck w wr HAB.out hin.qs (fun i hi => (hin.pi.com i hi).2) hin.hin hin.js HR.out hB hin.gb hjb hin.pi.ck0)
        have HI := Lib.hid hin
        clear hin
        go_wp2_with fail
        refine HADM.out.mono ?_
        rintro e w1 ⟨rfl, C', D', inD', A1', c1', A2', c2', hqs, hadm, hj, hg, htv⟩
        obtain ⟨row1, sep1⟩ := slots_past HI.out.row HI.out.sep htv
        have hdc := hj.qd.cell
        have hck0 := HI.out.pi.ck0
        have hck1 := HI.out.pi.ck1
        have hol := HI.out.pi.len
        by_cases h0 : D'.length = 0
        · have hbn := hqs.none_ hadm h0
          have hl0 : 0 < C'.length := by have := hqs.len; omega
          obtain ⟨g, rfl, a0', _⟩ := hj.qc.row.at_ hl0
          have hcs : ck < soon bs nx bs.length := by
            obtain ⟨_, j, hj', e⟩ := soon_le bs nx bs.length (by omega)
            have := bst_none hbn j hj'
            omega
          rw [hqs.first h0 (by omega), Nat.zero_mul] at a0'
          have hcc := hj.qc.cell
          rw [h0] at hdc
          have HN := Lib.hid (show In0 bs un R A c w jb w1 out O d (soon bs nx bs.length) nx inD' C' D' (some ⟨g, 0, none⟩) c1' A2' c2' from
            ⟨hqs, fun k hk hd => by have := hadm k hk; rw [hd] at this; have := of_decide_eq_true this.symm; omega, HI.out.pi.wait (by omega), HI.out.tell.wait hbn, hj, row1, sep1, hg⟩)
          have HLT := Lib.hid (far_wait out hcs hck1)
          have l0 : (0 : Int) < (C'.length : Int) := by omega
          clear hqs hadm hj hg htv row1 sep1 hbn h0 hcs HADM
          generalize soon bs nx bs.length = S at *
          go_wp2_with fail
          go_step3
          refine ⟨rfl, ⟨jb, hjb, out, O, d, S, _, _, _, _, _, _, _, _, _, _, _, _, _, _, _, _, _, _, _, _, _, _, _, _, _, _, _, _, _, _, _, _, _, _, _, _, _, _, _, _, _, _, _, _, _, _, _, _, _, _, _, _, _, _, _, _, _, _, _, _, _, _, _, _, _, _, _, rfl, nx, inD', C', D', _, c1', A2', c2', HN.out⟩, ?_⟩
          show far S out < far ck out
          have := HLT.out
          omega
        · obtain ⟨i, hi, hid, ej, hmin⟩ := hqs.due (by omega)
          have hb := hqs.best hadm (by omega) hi hid hmin
          have HTK := Lib.hid (take_c A c jb i bs nx inD' C' D' A1' c1' A2' c2' w w1 hqs (by omega) hi hid ej hj hg hjb)
          have l0 : (0 : Int) < (D'.length : Int) := by omega
          have HH := Lib.hid (And.intro hadm (And.intro hi hb))
          have HB := Lib.hid (And.intro row1 sep1)
          have HI2 := Lib.hid (And.intro HI.out.pi HI.out.tell)
          clear hqs hadm hj hg htv row1 sep1 hb hmin ej hid HI HADM
          go_wp2_with fail
          refine HTK.out.mono ?_
          rintro e w2 ⟨rfl, C2, D2, A3, c3, A4, c4, hqs2, hj2, hg2, htv2⟩
          obtain ⟨row2, sep2⟩ := slots_past HB.out.1 HB.out.2 htv2
          have HS2 := Lib.hid (And.intro hqs2 (And.intro hj2 (And.intro hg2 (And.intro row2 sep2))))
          clear hqs2 hj2 hg2 htv2 row2 sep2 HTK HB
          have HM0 := Lib.hid (show MidS w jb A bs.length c C2 D2 A3 c3 A4 c4 out O d w2.heap.size (i : Int) ck (w2.alloc (.cells #[.int .i64 (i : Int), .int .i64 ck] 69)) from by
            obtain ⟨hqs2, hj2, hg2, row2, sep2⟩ := HS2.out
            have ga := World.grownBy_alloc w2 (.cells #[.int .i64 (i : Int), .int .i64 ck] 69) none
            have hl := Qu.lt hj2.qc
            exact ⟨Sb.new w2 i ck, hj2.keep ga, hg2.trans ga, own_kept0 row2 ga, by omega, fun e => by have := (own_base hj2.qc.row _ e).2; omega, fun e => by have := (own_base hj2.qd.row _ e).2; omega, fun e => by have := (own_base row2 _ e).2; omega, hg2.size⟩)
          have HX := Lib.hid (And.intro HS2.out.1 HS2.out.2.2.2.2)
          clear HS2
          go_upto_if 42 with fail
          generalize hw3 : (w2.alloc (.cells #[.int .i64 (i : Int), .int .i64 ck] 69)) = w3 at *
          generalize hq1 : w2.heap.size = q at *
          clear hw3 hq1 hdc
          go_cut [] (fun wx => MidS w jb A bs.length c C2 D2 A3 c3 A4 c4 out O d q (i : Int) (planP.atT bs ck out i) wx)
          case first =>
            by_cases ho : out = []
            · have ea : planP.atT bs ck out i = ck := if_pos ho
              have HEA := Lib.hid ea
              have e0 : out.length = 0 := by rw [ho]; rfl
              have j1 : decide (0 < out.length) = false := decide_eq_false (by omega)
              have j2 : ¬ 0 < out.length := by omega
              clear ea ho hol e0 HPL HX HH HI2
              go_wp2_with fail
              go_meet
              rw [HEA.out]
              exact HM0.out
            · have ea : planP.atT bs ck out i = ck + tu bs (planP.lastB out) i := if_neg ho
              obtain ⟨j, t, esg, hjl, ht, el⟩ := HI2.out.1.lastB ho
              rw [el] at ea
              obtain ⟨m, em⟩ : ∃ m, out.length = m + 1 := ⟨out.length - 1, by have := List.length_pos_iff.2 ho; omega⟩
              rw [show out.length - 1 = m by omega] at esg
              obtain ⟨ad, x, y, rfl, _, exy, s0, s1⟩ := Rd.slot (Rd.of_lst HM0.out.row rfl) (show m < out.length by omega)
              rw [esg] at exy
              obtain ⟨rfl, rfl⟩ : (j : Int) = x ∧ (t : Int) = y := by injection exy with a b; exact ⟨a, b⟩
              have hbd := sw_bd (HK.out.bd j hjl) (HK.out.bd i HH.out.2.1)
              have HT1 := Lib.hid (fun (w' : World) (hg : w.grownBy w' none) => turn_c A c B bs j i t w' HK.out hjl HH.out.2.1 (HR.out.kept0 hg hB) (Nat.le_trans hB hg.size))
              replace hbd : 0 ≤ tu bs j i ∧ tu bs j i ≤ 8 := hbd
              generalize tu bs j i = TU at *
              have j1 : decide (0 < out.length) = true := decide_eq_true (by omega)
              have j2 : 0 < out.length := by omega
              have z0 : (0 : Int) < (out.length : Int) := by omega
              have z1 : (0 : Int) ≤ (m : Int) := by omega
              have z2 : (m : Int) < (out.length : Int) := by omega
              have z3 : IntKind.i64.wrap ((out.length : Int) - 1) = (m : Int) := by rw [IntKind.wrap_i64]; omega
              have z4 : IntKind.i64.wrap (ck + TU) = ck + TU := by rw [IntKind.wrap_i64]; omega
              have z5 : IntKind.i64.wrap (m : Int) = (m : Int) := by rw [IntKind.wrap_i64]; omega
              have HMD := Lib.hid (show MidS w jb A bs.length c C2 D2 A3 c3 A4 c4 out (some ad) d q (i : Int) ck w3.drew from HM0.out.keep (gb_drewN w3 1 none))
              obtain ⟨x0, x1, x2⟩ := HMD.out.sb.facts
              have s0 : w3.drew.cell? (ad.add (m * 2)) = some (.int .i64 (j : Int)) := s0
              have s1 : w3.drew.cell? ⟨(ad.add (m * 2)).block, (ad.add (m * 2)).off + 1, none⟩ = some (.int .i64 (t : Int)) := s1
              have HEA := Lib.hid ea
              clear ea ho hol em el esg exy HPL HX HI2 HH
              go_wp2_with fail
              go_region_with ((go_at_call 105; refine (HT1.out w3.drew HMD.out.gb).mono ?_; rintro e w6 ⟨rfl, hg⟩; have HM6 := Lib.hid (HMD.out.keep hg); obtain ⟨k0, k1, k4⟩ := HM6.out.sb.facts; have k2 := hg.cell s0 (by simp); have k3 := hg.cell s1 (by simp); clear hg))
              all_goals
                go_wp2_with fail
                go_meet
                rw [HEA.out]
                exact HM6.out.put _
          case rest =>
            have HMW := Lib.hid hcut
            obtain ⟨t1, t2⟩ := HI2.out.1.atT HAB.out HH.out.2.1
            have hdn := ab_num HAB.out HH.out.2.1
            have hdw : dw bs i = (bg bs i).2.2.1 := rfl
            have HDW := Lib.hid (show 1 ≤ dw bs i by rw [hdw]; exact hdn.1)
            have HMD := Lib.hid (show MidS w jb A bs.length c C2 D2 A3 c3 A4 c4 out O d q (i : Int) (planP.atT bs ck out i) wc.drew from hcut.keep (gb_drewN wc 1 none))
            clear hcut hdn hdw HM0
            obtain ⟨T, hT⟩ : ∃ T, T = planP.atT bs ck out i := ⟨_, rfl⟩
            rw [← hT] at t1 t2 HMW HMD
            have HT0 := Lib.hid hT
            clear hT
            obtain ⟨x0, x1, x2⟩ := HMW.out.sb.facts
            by_cases hl : out.length < 200
            · by_cases hut : T < un
              · obtain ⟨out2, ho2⟩ : ∃ o, o = out ++ [((i : Int), T)] := ⟨_, rfl⟩
                obtain ⟨O', d', w6, hrun, hm6, sep6⟩ := HMW.out.app HX.out.2 hl hjb ho2
                obtain ⟨y0, y1, y2⟩ := hm6.sb.facts
                have v0 := (World.grownBy_alloc wc (.cells #[.int .i64 (i : Int), .int .i64 T] 69) none).cell x0 (by simp)
                have v1 := (World.grownBy_alloc wc (.cells #[.int .i64 (i : Int), .int .i64 T] 69) none).cell x1 (by simp)
                have hend := end_c A c B bs i T w6 HK.out HH.out.2.1 (by omega) (by omega) (HR.out.kept0 hm6.gb hB) (Nat.le_trans hB hm6.gb.size)
                have HEND := Lib.hid hend
                have HM6 := Lib.hid (And.intro hm6 (And.intro sep6 ho2))
                have HL := Lib.hid (And.intro hl hut)
                have j1 : decide (out.length < 200) = true := decide_eq_true hl
                have j2 : decide (T < un) = true := decide_eq_true hut
                have j3 : (out.length : Int) < 200 := by omega
                have HTT := Lib.hid (And.intro t1 t2)
                have HUU := Lib.hid hu
                clear hm6 sep6 ho2 hend hol t1 t2 hu
                go_wp2_with fail
                go_region_held3 (fun w' => w'.cell? ⟨q, 0, none⟩ = some (.int .i64 (i : Int)) ∧ w'.cell? ⟨q, 1, none⟩ = some (.int .i64 T))
                  (first
                    | exact ⟨x0, x1⟩
                    | exact ⟨v0, v1⟩
                    | exact ⟨y0, y1⟩
                    | exact ⟨z0, z1⟩)
                  ((go_at_call 106; refine HEND.out.mono ?_; rintro e w7 ⟨rfl, hg7⟩; have HM7 := Lib.hid (HM6.out.1.keep hg7); obtain ⟨z0, z1, z2⟩ := HM7.out.sb.facts; clear hg7))
                all_goals
                  go_wp2_with fail
                  go_step3
                  refine ⟨rfl, ⟨jb, hjb, out2, O', d', T + dw bs i, _, _, _, _, _, _, _, _, _, _, _, _, _, _, _, _, _, _, _, _, _, _, _, _, _, _, _, _, _, _, _, _, _, _, _, _, _, _, _, _, _, _, _, _, _, _, _, _, _, _, _, _, _, _, _, _, _, _, _, _, _, _, _, _, _, _, _, rfl, upd nx i, (fun k => if k = i then false else inD' k), C2, D2, A3, c3, A4, c4, ?_⟩, ?_⟩
                  · obtain ⟨hm6, sep6, ho2⟩ := HM6.out
                    have hnx := HI2.out.1.next HAB.out HH.out.2.2 HUU.out.2 (by rw [← HT0.out]; have := HL.out.2; omega) (by have := HL.out.1; omega)
                    have htl := HI2.out.2.next HH.out.2.2 (by rw [← HT0.out]; have := HL.out.2; omega) (by have := HL.out.1; omega)
                    rw [← HT0.out, ← ho2] at hnx htl
                    refine ⟨HX.out.1, fun k hk hd => ?_, hnx, htl, HM7.out.js, HM7.out.row, sep6, HM7.out.gb⟩
                    by_cases ek : k = i
                    · rw [if_pos ek] at hd; cases hd
                    · rw [if_neg ek] at hd
                      have h1 := HH.out.1 k hk
                      rw [hd] at h1
                      have h1 := of_decide_eq_true h1.symm
                      have h2 : com bs (upd nx i) k = com bs nx k := by unfold planP.com upd; rw [if_neg ek]
                      have h3 := HTT.out.1
                      have h4 := HDW.out
                      rw [h2]
                      omega
                  · have h3 := HTT.out.1
                    have h4 := HDW.out
                    have hf := far_next (ck := ck) (ck' := T + dw bs i) (out := out) ((i : Int), T) HL.out.1 (by omega)
                    rw [← HM6.out.2.2] at hf
                    show far (T + dw bs i) out2 < far ck out
                    omega
              · have HEQ := Lib.hid (show R = out from HI2.out.2.end_ HH.out.2.2 (.inl (by rw [← HT0.out]; omega)))
                have j1 : decide (out.length < 200) = true := decide_eq_true hl
                have j2 : decide (T < un) = false := decide_eq_false hut
                clear hol t1 t2 hu
                go_wp2_with fail
                simp only [Exit.jump]
                show bodyPost _ _ _ _ _ _
                refine bodyPost_ret (v := .tuple #[.slice O out.length d, .bool true]) (by simp [results, Try.results27, go_sem]) rfl ?_
                rw [HEQ.out]
                exact ⟨O, d, rfl, row_base HMW.out.row (by omega), HMW.out.gb⟩
            · have HEQ := Lib.hid (show R = out from HI2.out.2.end_ HH.out.2.2 (.inr (by omega)))
              have HHU := Lib.hid hu
              have j1 : decide (out.length < 200) = false := decide_eq_false hl
              have j3 : ¬ (out.length : Int) < 200 := by omega
              clear hol t1 t2 hu
              by_cases hut : T < un
              · have j2 : decide (T < un) = true := decide_eq_true hut
                go_wp2_with fail
                simp only [Exit.jump]
                show bodyPost _ _ _ _ _ _
                refine bodyPost_ret (v := .tuple #[.slice O out.length d, .bool true]) (by simp [results, Try.results27, go_sem]) rfl ?_
                rw [HEQ.out]
                exact ⟨O, d, rfl, row_base HMW.out.row (by omega), HMW.out.gb⟩
              · have j2 : decide (T < un) = false := decide_eq_false hut
                go_wp2_with fail
                simp only [Exit.jump]
                show bodyPost _ _ _ _ _ _
                refine bodyPost_ret (v := .tuple #[.slice O out.length d, .bool true]) (by simp [results, Try.results27, go_sem]) rfl ?_
                rw [HEQ.out]
                exact ⟨O, d, rfl, row_base HMW.out.row (by omega), HMW.out.gb⟩
      · intro HP
        have HPP := Lib.hid HP
        clear HP
        go_wp2_with fail
        refine HA.out.mono ?_
        rintro e w1 ⟨rfl, g1⟩
        go_wp2_with fail
        refine (within_yes _ _ _ _ hu.1 hu.2).mono ?_
        rintro e w' ⟨rfl, rfl⟩
        go_wp2_with fail
        refine (HF.out w1).mono ?_
        rintro e w2 ⟨rfl, C, A1, c1, hqs, hj, g2⟩
        have HF2 := Lib.hid (And.intro hqs (And.intro hj (g1.trans g2)))
        have hs1 := g1.size
        clear hqs hj g1 g2
        go_wp2_with fail
        refine wp_label ?_
        refine (show _ from ‹∀ (a : Act) (w : World), Code.wp _ _ _ a w → _›) _ _ ?_
        refine HPP.out _ _ ⟨w1.heap.size, ?_, [], none, 0, 0, _, _, _, _, _, _, _, _, _, _, _, _, _, _, _, _, _, _, _, _, _, _, _, _, _, _, _, _, _, _, _, _, _, _, _, _, _, _, _, _, _, _, _, _, _, _, _, _, _, _, _, _, _, _, _, _, _, _, _, _, _, _, _, _, _, _, _, rfl, ?_⟩
        · exact hs1
        · exact ⟨_, _, _, _, _, _, _, _, HF2.out.1, (fun k _ h => by cases h), PI.start, HT.out, HF2.out.2.1, World.ownsRow_nil _ _ _ _, (fun b e => by cases e), HF2.out.2.2⟩
    · obtain ⟨e1, e2⟩ := PB_no (bs := bs) (un := un) (.inr hu)
      rw [e1, e2]
      have hu2 : un < 0 ∨ 10000 < un := by omega
      clear HA0 hr ha e1 e2 hu
      go_enter Try.func27, Try.ntmps27
      go_wp2_with fail
      go_step3
      go_wp2_with fail
      refine HA.out.mono ?_
      rintro e w1 ⟨rfl, g1⟩
      go_wp2_with fail
      refine (within_no _ _ _ _ hu2).mono ?_
      rintro e w' ⟨rfl, rfl⟩
      go_wp2_with fail
      rw [Exit.noGoto_ret]
      exact bodyPost_ret (v := .tuple #[.slice none 0 0, .bool false]) (by simp [results, Try.results27, go_sem]) rfl ⟨none, 0, rfl, World.ownsRow_nil _ _ _ _, g1⟩

end Go.Proofs.Ytbefoiikbbjjfaa.planI
