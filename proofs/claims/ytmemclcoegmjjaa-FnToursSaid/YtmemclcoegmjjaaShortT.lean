/- The shortest tour, by the program. -/
import Derived.Test.YtmemclcoegmjjaaRows
import Derived.Test.YtmemclcoegmjjaaSlc
import Derived.Test.YtmemclcoegmjjaaSmall
import Derived.Test.YtmemclcoegmjjaaOpens
import Derived.Test.YtmemclcoegmjjaaListI
import Derived.Test.YtmemclcoegmjjaaPlanNum
import Derived.Test.YtmemclcoegmjjaaSwT
import Derived.Test.YtmemclcoegmjjaaBeamsOk
import Derived.Test.YtmemclcoegmjjaaListDir
import Derived.Test.YtmemclcoegmjjaaDirsOk
import Derived.Test.YtmemclcoegmjjaaSortO
import Derived.Test.YtmemclcoegmjjaaSeqV
import Derived.Test.YtmemclcoegmjjaaOrdC
import Derived.Test.YtmemclcoegmjjaaTourC
import Derived.Test.YtmemclcoegmjjaaTourS
import Derived.Test.YtmemclcoegmjjaaTourQ
import Derived.Test.YtmemclcoegmjjaaTourN
import Derived.Test.YtmemclcoegmjjaaTourM
import Derived.Test.YtmemclcoegmjjaaTourB
import Derived.Test.YtmemclcoegmjjaaTourL
import Derived.Test.YtmemclcoegmjjaaTourMM
import Derived.Test.YtmemclcoegmjjaaTourR
import Derived.Test.YtmemclcoegmjjaaFarF
import Derived.WalkKit
import Derived.ProofKit
import Derived.OpenShut
import Derived.ShutString
import Derived.ChangeOld
import Derived.Below
import Derived.Lib.Hide
import Derived.BigQuiet
import Derived.Deep.QuietTactic
import Derived.WalkLawsBesides
import Derived.Outline
import Derived.Deep.QuietTactic
import Derived.BigQuiet
import Derived.Deep.LoopGhost
import Derived.Deep.RegionHeld3
import Derived.Deep.RegionWith
import Derived.Deep.OwnRows
import Derived.StillTailTactics
import Derived.Laws.StructEq
import Derived.Maps.OwnOps
import Derived.Maps.OwnSet
import Derived.Maps.Views
import Derived.MapViews
import Derived.DeepKeys4
namespace Go.Proofs.Ytmemclcoegmjjaa.shortT
open Go.ChangeShapes Go.WideShapes Go.ChangeAt Go.RowKit
open Go.ChangeMaps (open_string shut_string)
set_option linter.unusedVariables false
open Go Go.RowKit
open Go.Proofs.Ytmemclcoegmjjaa.slc Go.Proofs.Ytmemclcoegmjjaa.small Go.Proofs.Ytmemclcoegmjjaa.opens Go.Proofs.Ytmemclcoegmjjaa.listI Go.Proofs.Ytmemclcoegmjjaa.planNum Go.Proofs.Ytmemclcoegmjjaa.dirsOk Go.Proofs.Ytmemclcoegmjjaa.ordC Go.Proofs.Ytmemclcoegmjjaa.tourC Go.Proofs.Ytmemclcoegmjjaa.tourS Go.Proofs.Ytmemclcoegmjjaa.tourQ Go.Proofs.Ytmemclcoegmjjaa.tourN Go.Proofs.Ytmemclcoegmjjaa.tourM Go.Proofs.Ytmemclcoegmjjaa.tourB Go.Proofs.Ytmemclcoegmjjaa.tourL Go.Proofs.Ytmemclcoegmjjaa.tourMM Go.Proofs.Ytmemclcoegmjjaa.tourR Go.Proofs.Ytmemclcoegmjjaa.farF

/-- A block of the call's own that holds a stop. -/
def Sb (w : World) (b : Nat) (x y : Int) : Prop := w.ownsRow b 146 2 (.slice (some ⟨b, 0, none⟩) 1 1) 1 [.int .i64 x, .int .i64 y]
section
variable {w w' : World} {b : Nat} {x y : Int} {row : Option Nat}
theorem Sb.new (w : World) (x y : Int) : Sb (w.alloc (.cells #[.int .i64 x, .int .i64 y] 146)) w.heap.size x y := World.ownsRow_lit w #[.int .i64 x, .int .i64 y] 1 (Nat.le_refl _) (by decide) rfl
theorem Sb.facts (h : Sb w b x y) : w.cell? ⟨b, 0, none⟩ = some (.int .i64 x) ∧ w.cell? ⟨b, 1, none⟩ = some (.int .i64 y) ∧ w.frozen? ⟨b, 0, none⟩ = false ∧ w.frozen? ⟨b, 1, none⟩ = false :=
  ⟨h.cellAt 0 (by decide), h.cellAt 1 (by decide), h.frozenAt 0, h.frozenAt 1⟩
theorem Sb.put1 (h : Sb w b x y) (x' : Int) : Sb (w.setCell ⟨b, 0, none⟩ (.int .i64 x')) b x' y ∧ w.grownBy (w.setCell ⟨b, 0, none⟩ (.int .i64 x')) (some b) := h.stored 0 (.int .i64 x')
theorem Sb.put2 (h : Sb w b x y) (y' : Int) : Sb (w.setCell ⟨b, 1, none⟩ (.int .i64 y')) b x y' ∧ w.grownBy (w.setCell ⟨b, 1, none⟩ (.int .i64 y')) (some b) := h.stored 1 (.int .i64 y')
theorem Sb.keep (h : Sb w b x y) (hg : w.grownBy w' row) (hne : some b ≠ row) : Sb w' b x y := World.ownsRow.kept h hg (.inr (by simpa [Value.ownBlock] using hne))
theorem Sb.lt (h : Sb w b x y) : b < w.heap.size := World.block_lt_of_cell? w _ h.facts.1
end
def sl : Value → Nat | .slice _ n _ => n | _ => 0
theorem shl_tab8 : ∀ k : Nat, k < 8 → IntKind.i64.wrap (1 * 2 ^ k) = 2 ^ k ∧ IntKind.i64.wrap (2 ^ k) = 2 ^ k ∧ min k 64 = k ∧ IntKind.i64.wrap ((2 : Int) ^ k - 1) = ((2 ^ k - 1 : Nat) : Int) ∧ (1 ≤ k → (2 ^ k - 1 : Nat).testBit 0 = true ∧ 2 ^ k - 1 - 2 ^ 0 = 2 ^ k - 2) := by decide +kernel
theorem U_bd : ∀ r, r < 8 → U r ≤ 150000 := by decide
theorem gb_put {w : World} {b i : Nat} {v : Value} : w.grownBy (w.setCell ⟨b, i, none⟩ v) (some b) :=
  ⟨rfl, rfl, rfl, (KeepsWalks.setCell w _ v).size, fun k _ hk => Below.heap_setCell _ _ _ k (fun e => hk (by rw [e]))⟩
/-- One number more, behind a draw. -/
theorem app_d {base : Nat} {W : World} {A : Option Addr} {cap k : Nat} {xs : List Int} (x : Int) (i0 : TypeInfo) (hi0 : Try.prog.info? 2 = some i0) (hz0 : i0.zero = some (.int .i64 0)) (hz1 : i0.size = 1) (hz2 : i0.bytes = 8)
    (hb : base ≤ W.heap.size) (h2 : W.ownsRow base 2 1 (.slice A k cap) k (ints xs)) (hk : k < 100000) :
    ∃ A6 c6 w6, (appS #[59, 59] 59 #[.slice A k cap, .slice (some ⟨W.heap.size, 0, none⟩) 1 1]).run Try.prog (W.alloc (.cells #[.int .i64 x] 2)).drew = .ok (.slice A6 (k + 1) c6) w6 ∧
      w6.ownsRow base 2 1 (.slice A6 (k + 1) c6) (k + 1) (ints (xs ++ [x])) ∧ (W.alloc (.cells #[.int .i64 x] 2)).drew.grownBy w6 (A.map Addr.block) := by
  obtain ⟨v6, w6, hrun, r1, r2, _⟩ := run_append_own (P := Try.prog) (W.alloc (.cells #[.int .i64 x] 2)).drew base 59 59 2 i0 (.int .i64 0) 1 8 Try.underlying59 hi0 hz0 hz1 hz2 rfl (by decide) _ _ _ (own_kept0 (h2.alloc _) (gb_drewN _ 1 none)) ⟨W.heap.size, 0, none⟩ 1 1 [.int .i64 x] rfl (cell_one_new W _ _) (by simp [Value.oneCell']) (by unfold maxLen; omega) (by omega) (by show base ≤ (W.alloc _).heap.size; simp; omega)
  obtain ⟨A6, c6, rfl⟩ := row_slice r1
  rw [slc.ints_snoc] at r1
  rw [own_blk] at r2
  exact ⟨A6, c6, w6, hrun, r1, r2⟩
theorem memo_far {N : Nat} {c : Nat → Nat → Int} {w w' : World} {b n : Nat} {row : Option Nat} (h : Memo N c w b n) (hg : w.grownBy w' row) (hr : ∀ g, row = some g → b < g) : Memo N c w' b n := by
  obtain ⟨D, ho, hm, hD⟩ := h
  exact ⟨D, ho.kept hg (by intro e; have := hr b e.symm; omega), hm, hD⟩
theorem st_far {w w' : World} {A : Option Addr} {c B b n : Nat} {ds : List (Int × Int)} {row : Option Nat} (h : St w A c B (b + 1) b n ds) (hg : w.grownBy w' row) (hr : ∀ g, row = some g → b + 1 < g) : St w' A c B (b + 1) b n ds :=
  ⟨h.dirs.kept hg (Nat.le_trans h.Bb (Nat.le_of_lt h.bw)) (fun x _ hx e => by have := hr x e.symm; have := h.Bb; omega), h.Bb, hg.cell h.t0 (by intro e; have := hr _ e.symm; dsimp only at this; omega), hg.cell h.t1 (by intro e; have := hr _ e.symm; dsimp only at this; omega), h.tb, Nat.lt_of_lt_of_le h.bw hg.size, memo_far h.memo hg (fun g e => by have := hr g e; omega)⟩
theorem make_none (w : World) : (Instr.makeMap 142 none).run Try.prog w = .ok (.map (some w.heap.size)) (w.alloc (.map #[] 0)) := by
  rfl
section
attribute [local go_sem] make_none
attribute [local go_sem ↓] app_stop
set_option maxHeartbeats 3200000 in
set_option maxRecDepth 100000 in
theorem short_impl (A : Option Addr) (c B : Nat) (ds : List (Int × Int)) (w : World) (hm : ds.length ≤ 9223372036854775807) (hr : Rd w B A (ds.length * 2) (pcell ds)) (hB : B ≤ w.heap.size) :
    Calls Try.prog 38 #[.slice A ds.length c] w fun e w' => ∃ O d, e = .returned (.tuple #[.slice O (SL ds).length d, .int .i64 (SV ds), .bool (db ds)]) ∧ w'.ownsRow w.heap.size 2 1 (.slice O (SL ds).length d) (SL ds).length (ints (SL ds)) ∧ w.grownBy w' none := by
  have HA0 := dirs_impl A c B ds w hm hr hB
  cases ha : db ds
  · rw [show SL ds = [] by unfold SL; rw [if_neg (by simp [ha])], show SV ds = 0 by unfold SV; rw [if_neg (by simp [ha])]]
    rw [ha] at HA0
    have HA := Lib.hid HA0
    clear HA0 hr ha
    go_enter Try.func38, Try.ntmps38
    go_wp2_with fail
    refine HA.out.mono ?_
    rintro e w1 ⟨rfl, g1⟩
    go_wp2_with fail
    exact bodyPost_ret (v := .tuple #[.slice none 0 0, .int .i64 0, .bool false]) (by simp [results, Try.results38, go_sem]) rfl ⟨none, 0, rfl, World.ownsRow_nil _ _ _ _, g1⟩
  · rw [ha] at HA0
    have HA := Lib.hid HA0
    obtain ⟨l1, l7⟩ := db_len ha
    have hi := Inv.start l1 l7
    have hl : (SL ds).length = ds.length := by unfold SL; rw [if_pos ha, gz_len, (TL_len ds hi l7).1]
    have hs : SL ds = gz (TL ds ds.length [0] (2 ^ ds.length - 2)) := by unfold SL; rw [if_pos ha]
    have hv : SV ds = L ds.length (tk ds) 0 (2 ^ ds.length - 2) := by
      unfold SV
      rw [if_pos ha]
      unfold TV
      rw [show pth ds [0] = 0 from rfl, show lp [0] = 0 from rfl]
      omega
    rw [hl, hs, hv]
    have HR := Lib.hid (fun (w' : World) (hg : w.grownBy w' none) => hr.kept0 hg hB)
    have HD := Lib.hid ha
    have HI := Lib.hid hi
    obtain ⟨s1, s2, s3, s4, s5⟩ := shl_tab8 ds.length (by omega)
    obtain ⟨s5, s6⟩ := s5 l1
    have h7 := two_le l7
    have H7 := Lib.hid h7
    have HNX := Lib.hid (fun w => next_c 0 (2 ^ ds.length - 1) 0 w (by omega) (by omega) s5)
    have HS6 := Lib.hid s6
    rw [s6, show ((0 : Nat) : Int) = 0 from rfl] at HNX
    have hp0 := hi.cnt
    have HLT := Lib.hid hi.lt
    have HLC := Lib.hid (fun (b tb : Nat) (r : Nat) (hr : r < 8) => least_c A c B tb b ds ha r hr)
    clear HA0 hr ha hi hl hs hv s5 s6 h7
    generalize hM : (2 ^ ds.length - 2 : Nat) = M0 at *
    go_enter Try.func38, Try.ntmps38
    go_wp2_with fail
    refine HA.out.mono ?_
    rintro e w1 ⟨rfl, g1⟩
    have gM := World.grownBy_alloc w1 (.map #[] 0) none
    have me := Memo.made ds.length (tk ds) w1
    have HG1 := Lib.hid g1
    have HME := Lib.hid (And.intro gM me)
    clear g1 gM me
    go_wp2_with fail
    refine (HNX.out _).mono ?_
    rintro e w3 ⟨rfl, g3⟩
    obtain ⟨gM, me⟩ := HME.out
    have gT := World.grownBy_alloc (w1.alloc (.map #[] 0)) (.cells #[.slice A ds.length c, .map (some w1.heap.size)] 144) none
    obtain ⟨t0, t1⟩ := boxed2 g3
    have hsz : (w1.alloc (.map #[] 0)).heap.size = w1.heap.size + 1 := by simp
    rw [hsz] at t0 t1
    have gg3 := ((HG1.out.trans gM).trans gT).trans g3
    have hb3 : w1.heap.size + 2 ≤ w3.heap.size := by
      have := g3.size
      simp at this
      omega
    have st3 : St w3 A c B (w1.heap.size + 1) w1.heap.size 0 ds := ⟨HR.out _ gg3, Nat.le_trans hB HG1.out.size, t0, t1, by omega, by omega, (me.kept gT).kept g3⟩
    have gS := World.grownBy_alloc w3 (.cells #[.int .i64 0, .int .i64 M0] 146) none
    have gO := World.grownBy_alloc (w3.alloc (.cells #[.int .i64 0, .int .i64 M0] 146)) (.cells #[.int .i64 0] 2) none
    have sb0 := (Sb.new w3 0 M0).keep gO (by simp)
    have row0 := World.ownsRow_lit (base := w3.heap.size + 1) (e := 2) (size := 1) (w3.alloc (.cells #[.int .i64 0, .int .i64 M0] 146)) #[.int .i64 0] 1 (by simp) (by decide) rfl
    rw [show (w3.alloc (.cells #[.int .i64 0, .int .i64 M0] 146)).heap.size = w3.heap.size + 1 by simp] at row0
    have hw1 := HG1.out.size
    have st4 := (st3.kept0 gS).kept0 gO
    have gg4 := (gg3.trans gS).trans gO
    have HS4 := Lib.hid (And.intro sb0 (And.intro row0 (And.intro st4 gg4)))
    clear gM me gT g3 t0 t1 hsz gg3 st3 gS gO sb0 row0 st4 gg4 HME HG1 HNX HA
    generalize w1.heap.size = b at *
    go_wp2_with fail
    generalize ((w3.alloc (.cells #[.int .i64 0, .int .i64 M0] 146)).alloc (.cells #[.int .i64 0] 2)) = W4 at *
    generalize w3.heap.size = sb at *
    obtain ⟨sb0, row0, st4, gg4⟩ := HS4.out
    have hpc : pc M0 < 8 := by
      simp only [List.length_singleton] at hp0
      omega
    have hU := U_bd (pc M0) hpc
    refine (HLC.out b (b + 1) (pc M0) hpc 0 M0 0 W4 rfl (by omega) HLT.out st4 (by omega)).mono ?_
    rintro e w5 ⟨rfl, n5, hn5, st5, g5⟩
    have sb5 := sb0.keep g5 (by intro e; injection e with e; omega)
    have row5 := World.ownsRow.kept row0 g5 (.inr (by intro e; simp [Value.ownBlock] at e; omega))
    have gg5 := gb_new gg4 g5 (by intro g e; injection e with e; omega)
    have HS5 := Lib.hid (And.intro sb5 (And.intro row5 (And.intro st5 gg5)))
    have HN5 := Lib.hid (show n5 ≤ [0].length * 3000000 by simp only [List.length_singleton]; omega)
    clear HS4 sb0 row0 st4 gg4 sb5 row5 gg5 st5 g5 hU hn5 hp0
    go_wp2_with fail
    go_loopw [7] (fun v wr => ∃ (p : List Nat) (m n' : Nat), tourM.Inv ds.length p m ∧ TL ds ds.length p m = TL ds ds.length [0] M0 ∧ n' ≤ p.length * 3000000 ∧ Sb wr sb (lp p : Nat) (m : Nat) ∧ (∃ O d, v = .slice O p.length d ∧ wr.ownsRow (sb + 1) 2 1 (.slice O p.length d) p.length (ints (gz p))) ∧ St wr A c B (b + 1) b n' ds ∧ w.grownBy wr none) (fun v _ => ds.length - sl v)
    case atStart => exact ⟨[0], M0, n5, HI.out, rfl, HN5.out, HS5.out.1, ⟨_, _, rfl, HS5.out.2.1⟩, HS5.out.2.2.1, HS5.out.2.2.2⟩
    case round =>
      obtain ⟨p, m, n', hi, hTL, hn', hsb, ⟨O, d, rfl, hou⟩, hst, hg⟩ := hrel
      by_cases hm : m = 0
      · subst hm
        have hpl := (hi.full l7).2 rfl
        have e1 := (TV_full ds hi).1
        have hou : wr.ownsRow (sb + 1) 2 1 (.slice O ds.length d) ds.length (ints (gz (TL ds ds.length [0] M0))) := by rw [← hTL, e1, ← hpl]; exact hou
        have HPL := Lib.hid hpl
        obtain ⟨c0, c1, _, _⟩ := hsb.facts
        rw [show ((0 : Nat) : Int) = 0 from rfl] at c1
        have HF := Lib.hid (And.intro (own_mono hou (show w.heap.size ≤ sb + 1 by omega)) hg)
        clear hsb hou hst hg hi hTL e1 hn' hpl
        go_wp2_with fail
        exact bodyPost_ret (v := .tuple #[.slice O p.length d, .int .i64 (L ds.length (tk ds) 0 M0), .bool true]) (by simp [results, Try.results38, go_sem]) rfl ⟨O, d, by rw [HPL.out], HF.out.1, HF.out.2⟩
      · have hlt := hi.lt
        have h7 := H7.out
        obtain ⟨q, hq⟩ := found (tk ds) (lp p) hm hi.lt
        obtain ⟨q1, q2, q3, q4⟩ := fm_is hq
        have hL := L_pos hm hq
        have hV := V_bd HD.out
        obtain ⟨r, hr⟩ : ∃ r, pc m = r + 1 := ⟨pc m - 1, by
          have := (pc_zero m (by omega)).1
          have : pc m ≠ 0 := fun e => hm (this e)
          omega⟩
        have hcnt := hi.cnt
        have hr7 : r + 1 < 8 := by omega
        have hU1 := U_bd r (by omega)
        have hU2 := U_bd (r + 1) hr7
        have hlp := hi.lp_lt
        have hz : ((m : Int) == 0) = false := by simp; omega
        have hz2 : ¬ (m : Int) = 0 := by omega
        have HTN := Lib.hid ((TL_next ds hm hq).trans hTL)
        have HTL := Lib.hid hTL
        have HI1 := Lib.hid hi
        have HQ := Lib.hid (And.intro hq (And.intro q1 (And.intro q2 (And.intro q3 (And.intro q4 hL)))))
        have HPC := Lib.hid hr
        have HM := Lib.hid (And.intro hm (And.intro hlt (show m < 128 by omega)))
        have HO := Lib.hid hou
        have HSB := Lib.hid hsb
        have HST := Lib.hid hst
        have HG := Lib.hid hg
        have HN := Lib.hid hn'
        have HLP := Lib.hid hlp
        obtain ⟨c0, c1, _, _⟩ := hsb.facts
        have hbs := hst.bw
        have HLV := Lib.hid (fun k (hk : k < ds.length) w => leaves_c (lp p) m k w (by omega) (by omega))
        have HBY := Lib.hid (fun k n w (hk : k < ds.length) (hb : m.testBit k = true) (h : St w A c B (b + 1) b n ds) (hn : n + U r < 100000000) => by_c A c B (b + 1) b ds HD.out r (HLC.out b (b + 1) r (by omega)) (lp p) m k n w hr hlp hlt hk hb h hn)
        have HLE := Lib.hid (fun n w (h : St w A c B (b + 1) b n ds) (hn : n + U (r + 1) < 100000000) => HLC.out b (b + 1) (r + 1) hr7 (lp p) m n w hr hlp hlt h hn)
        clear hi hTL hn' hsb hou hst hg hq q2 q3 q4 hL hV hr hcnt h7 hlt hm hlp
        generalize lp p = a at *
        go_wp2_with fail
        rw [show ((m : Int) != 0) = true by simpa using hz2]
        clear hz hz2
        obtain ⟨wo, rfl⟩ : ∃ wo, wo = wr := ⟨_, rfl⟩
        go_loopw [9] (fun i wr => ∃ (k n2 : Nat), k ≤ q ∧ i = .int .i64 k ∧ n2 ≤ n' + k * 400000 ∧ Sb wr sb (a : Nat) (m : Nat) ∧ wr.ownsRow (sb + 1) 2 1 (.slice O p.length d) p.length (ints (gz p)) ∧ St wr A c B (b + 1) b n2 ds ∧ w.grownBy wr none) (fun i _ => q - (intOf i).toNat)
        case atStart => exact ⟨0, n', Nat.zero_le _, rfl, by omega, HSB.out, HO.out, HST.out, HG.out⟩
        case round =>
          obtain ⟨k, n2, hkq, rfl, hn2, hsb, hou, hst, hg⟩ := hrel
          obtain ⟨c0, c1, _, _⟩ := hsb.facts
          have hkd : k < ds.length := by omega
          have HB2 := Lib.hid (show n2 + U r + U (r + 1) < 100000000 by have := HN.out; have := HI1.out.cnt; omega)
          have HF2 := Lib.hid (And.intro hn2 (And.intro hsb (And.intro hou (And.intro hst hg))))
          have HLV1 := Lib.hid (HLV.out k hkd)
          have sdr : St wr.drew A c B (b + 1) b n2 ds := hst.kept0 (gb_drewN _ 1 none)
          have gdr : w.grownBy wr.drew none := hg.trans (gb_drewN _ 1 none)
          have SDR := Lib.hid (And.intro sdr gdr)
          have hne : ¬ sb = b := by omega
          have k0 : (0 : Int) ≤ (k : Int) := by omega
          clear hn2 hsb hou hst hg
          cases hb : m.testBit k
          · have hkl : k < q := by
              rcases Nat.lt_or_ge k q with h | h
              · exact h
              · have h2 := HQ.out.2.2.1
                obtain rfl : k = q := by omega
                rw [hb] at h2
                cases h2
            rw [hb] at HLV1
            clear sdr gdr hb
            go_wp2_with fail
            refine wp_region_noPanic ?_
            refine wp_region_held_drew (S := fun w' => w'.cell? ⟨sb, 0, none⟩ = some (.int .i64 a) ∧ w'.cell? ⟨sb, 1, none⟩ = some (.int .i64 m)) (by kernel_rfl) ⟨c0, c1⟩ (fun hHeld => ?_)
            refine wpAnyH_take (i := 0) (oi := { dst := some 30, op := Op.load 146 (Operand.tmp 6), type := 146, pos := "l09_plans.go:355", after := #[], guard := none }) (v := .agg #[.int .i64 a, .int .i64 m]) (by kernel_rfl) (by kernel_rfl) (by kernel_rfl) (by kernel_rfl) (fun _ _ _ h => False.elim h) (Or.inl ⟨by kernel_rfl, fun w' hSw => by obtain ⟨h0, h1⟩ := hSw; go_simp⟩) hHeld ?_
            simp only [Act.put, List.setIfInBounds_toArray, List.set]
            refine wpAnyH_take (i := 1) (oi := { dst := some 31, op := Op.move (Operand.tmp 9), type := 2, pos := "l09_plans.go:355", after := #[], guard := none }) (v := .int .i64 k) (by kernel_rfl) (by kernel_rfl) (by kernel_rfl) (by kernel_rfl) (fun _ _ _ h => False.elim h) (Or.inl ⟨by kernel_rfl, fun w' _ => by go_simp⟩) hHeld ?_
            simp only [Act.put, List.setIfInBounds_toArray, List.set]
            refine wpAnyH_ready (rs := [2]) (by kernel_rfl) (by simp) ?_
            refine AllReadyH.cons (o := { dst := some 32, op := Op.call { callee := Callee.value (Operand.func 103), args := #[Operand.tmp 30, Operand.tmp 31], argTypes := #[146, 2] }, type := 4, pos := "l09_plans.go:355", after := #[{ on := 0, ground := Ground.data }, { on := 1, ground := Ground.data }], guard := none }) (by kernel_rfl) (fun K hK => ?_) AllReadyH.nil
            go_simp
            refine (HLV1.out _).mono ?_
            rintro e w3 ⟨rfl, hg⟩
            refine hK.out _ _ ⟨hg.cell hHeld.1 (by simp), hg.cell hHeld.2 (by simp)⟩ (fun hHeld => ?_)
            clear hK K
            have HH := Lib.hid hg
            clear hg
            refine wpAnyH_take (i := 3) (oi := { dst := some 33, op := Op.unOp UnOp.not 4 (Operand.tmp 32), type := 4, pos := "l09_plans.go:355", after := #[{ on := 2, ground := Ground.data }], guard := none }) (v := .bool true) (by kernel_rfl) (by kernel_rfl) (by kernel_rfl) (by kernel_rfl) (fun _ _ _ h => False.elim h) (Or.inl ⟨by kernel_rfl, fun w' _ => by go_simp⟩) hHeld ?_
            simp only [Act.put, List.setIfInBounds_toArray, List.set]
            refine wpAnyH_take (i := 4) (oi := { dst := some 34, op := Op.move (Operand.tmp 33), type := 4, pos := "l09_plans.go:355", after := #[{ on := 3, ground := Ground.data }, { on := 2, ground := Ground.chain }], guard := none }) (v := .bool true) (by kernel_rfl) (by kernel_rfl) (by kernel_rfl) (by kernel_rfl) (fun _ _ _ h => False.elim h) (Or.inl ⟨by kernel_rfl, fun w' _ => by go_simp⟩) hHeld ?_
            simp only [Act.put, List.setIfInBounds_toArray, List.set]
            refine wpAnyH_take (i := 5) (oi := { dst := some 35, op := Op.move (Operand.tmp 5), type := 141, pos := "l09_plans.go:355", after := #[{ on := 4, ground := Ground.guard }], guard := some (4, false) }) (v := undef) (by kernel_rfl) (by kernel_rfl) (by kernel_rfl) (by kernel_rfl) (fun _ _ _ h => False.elim h) (Or.inr ⟨by kernel_rfl, rfl⟩) hHeld ?_
            simp only [Act.put, List.setIfInBounds_toArray, List.set]
            refine wpAnyH_take (i := 6) (oi := { dst := some 36, op := Op.load 146 (Operand.tmp 6), type := 146, pos := "l09_plans.go:355", after := #[{ on := 4, ground := Ground.guard }], guard := some (4, false) }) (v := undef) (by kernel_rfl) (by kernel_rfl) (by kernel_rfl) (by kernel_rfl) (fun _ _ _ h => False.elim h) (Or.inr ⟨by kernel_rfl, rfl⟩) hHeld ?_
            simp only [Act.put, List.setIfInBounds_toArray, List.set]
            refine wpAnyH_take (i := 7) (oi := { dst := some 37, op := Op.move (Operand.tmp 9), type := 2, pos := "l09_plans.go:355", after := #[{ on := 4, ground := Ground.guard }], guard := some (4, false) }) (v := undef) (by kernel_rfl) (by kernel_rfl) (by kernel_rfl) (by kernel_rfl) (fun _ _ _ h => False.elim h) (Or.inr ⟨by kernel_rfl, rfl⟩) hHeld ?_
            simp only [Act.put, List.setIfInBounds_toArray, List.set]
            refine wpAnyH_take (i := 8) (oi := { dst := some 38, op := Op.call { callee := Callee.value (Operand.func 104), args := #[Operand.tmp 35, Operand.tmp 36, Operand.tmp 37], argTypes := #[141, 146, 2] }, type := 2, pos := "l09_plans.go:355", after := #[{ on := 5, ground := Ground.data }, { on := 6, ground := Ground.data }, { on := 7, ground := Ground.data }, { on := 4, ground := Ground.chain }, { on := 4, ground := Ground.guard }], guard := some (4, false) }) (v := undef) (by kernel_rfl) (by kernel_rfl) (by kernel_rfl) (by kernel_rfl) (fun _ _ _ h => False.elim h) (Or.inr ⟨by kernel_rfl, rfl⟩) hHeld ?_
            simp only [Act.put, List.setIfInBounds_toArray, List.set]
            refine wpAnyH_take (i := 9) (oi := { dst := some 39, op := Op.move (Operand.tmp 5), type := 141, pos := "l09_plans.go:355", after := #[{ on := 4, ground := Ground.guard }], guard := some (4, false) }) (v := undef) (by kernel_rfl) (by kernel_rfl) (by kernel_rfl) (by kernel_rfl) (fun _ _ _ h => False.elim h) (Or.inr ⟨by kernel_rfl, rfl⟩) hHeld ?_
            simp only [Act.put, List.setIfInBounds_toArray, List.set]
            refine wpAnyH_take (i := 10) (oi := { dst := some 40, op := Op.load 146 (Operand.tmp 6), type := 146, pos := "l09_plans.go:355", after := #[{ on := 4, ground := Ground.guard }], guard := some (4, false) }) (v := undef) (by kernel_rfl) (by kernel_rfl) (by kernel_rfl) (by kernel_rfl) (fun _ _ _ h => False.elim h) (Or.inr ⟨by kernel_rfl, rfl⟩) hHeld ?_
            simp only [Act.put, List.setIfInBounds_toArray, List.set]
            refine wpAnyH_take (i := 11) (oi := { dst := some 41, op := Op.call { callee := Callee.value (Operand.func 102), args := #[Operand.tmp 39, Operand.tmp 40], argTypes := #[141, 146] }, type := 2, pos := "l09_plans.go:355", after := #[{ on := 9, ground := Ground.data }, { on := 10, ground := Ground.data }, { on := 8, ground := Ground.chain }, { on := 4, ground := Ground.guard }], guard := some (4, false) }) (v := undef) (by kernel_rfl) (by kernel_rfl) (by kernel_rfl) (by kernel_rfl) (fun _ _ _ h => False.elim h) (Or.inr ⟨by kernel_rfl, rfl⟩) hHeld ?_
            simp only [Act.put, List.setIfInBounds_toArray, List.set]
            refine wpAnyH_take (i := 12) (oi := { dst := some 42, op := Op.binOp BinOp.gtr 2 (Operand.tmp 38) (Operand.tmp 41) 2, type := 4, pos := "l09_plans.go:355", after := #[{ on := 8, ground := Ground.data }, { on := 11, ground := Ground.data }, { on := 4, ground := Ground.guard }], guard := some (4, false) }) (v := undef) (by kernel_rfl) (by kernel_rfl) (by kernel_rfl) (by kernel_rfl) (fun _ _ _ h => False.elim h) (Or.inr ⟨by kernel_rfl, rfl⟩) hHeld ?_
            simp only [Act.put, List.setIfInBounds_toArray, List.set]
            refine wpAnyH_take (i := 13) (oi := { dst := some 43, op := Op.pick (Operand.tmp 34) (Operand.const (Value.bool true)) (Operand.tmp 42), type := 4, pos := "l09_plans.go:355", after := #[{ on := 4, ground := Ground.data }, { on := 12, ground := Ground.data }], guard := none }) (v := .bool true) (by kernel_rfl) (by kernel_rfl) (by kernel_rfl) (by kernel_rfl) (fun _ _ _ h => False.elim h) (Or.inl ⟨by kernel_rfl, fun w' _ => by go_simp⟩) hHeld ?_
            simp only [Act.put, List.setIfInBounds_toArray, List.set]
            refine wpAnyH_done (by kernel_rfl) (NoPanic.normal ?_) _
            go_wp2_with fail
            refine ⟨?_, by simp [intOf]; omega⟩
            obtain ⟨h1, h2, h3, h4, h5⟩ := HF2.out
            have g3 : wr.grownBy w3 none := (gb_drewN wr 1 none).trans HH.out
            exact ⟨k + 1, n2, hkl, by go_num, Nat.le_trans h1 (Nat.add_le_add_left (Nat.mul_le_mul_right _ (Nat.le_succ k)) _), h2.keep g3 (by simp), own_kept0 h3 g3, h4.kept0 g3, h5.trans g3⟩
          · rw [hb] at HLV1
            rcases Nat.lt_or_ge k q with hkl | hge
            · have hgt : L ds.length (tk ds) a m < V ds.length (tk ds) a m k := by
                have h1 := HQ.out.2.2.2.2.1 k hkl hb
                have h2 := HQ.out.2.2.2.2.2
                omega
              have HLL := Lib.hid hb
              clear sdr gdr hb
              go_wp2_with fail
              go_region_held3 (fun w' => w'.cell? ⟨sb, 0, none⟩ = some (.int .i64 a) ∧ w'.cell? ⟨sb, 1, none⟩ = some (.int .i64 m))
                (first
                  | (go_split_ands
                     exact ⟨hg.cell (by assumption) (by simp [hne]), hg.cell (by assumption) (by simp [hne])⟩)
                  | exact ⟨c0, c1⟩)
                (first
                  | (go_at_call 103; refine (HLV1.out _).mono ?_; rintro e w3 ⟨rfl, hg⟩; have HS3 := Lib.hid (SDR.out.1.kept0 hg); have HG3 := Lib.hid ((gb_drewN wr 1 none).trans hg))
                  | (go_at_call 104; refine (HBY.out k n2 _ hkd HLL.out HS3.out (by have := HB2.out; omega)).mono ?_; rintro e w4 ⟨rfl, n4, hn4, st4, hg⟩; have HS4 := Lib.hid st4; have HN4 := Lib.hid hn4; have HG4 := Lib.hid ((gb_any HG3.out (some b)).trans hg))
                  | (go_at_call 102; refine (HLE.out n4 _ HS4.out (by have := HB2.out; have := HN4.out; omega)).mono ?_; rintro e w5 ⟨rfl, n6, hn6, st6, hg⟩; have HF := Lib.hid (And.intro hn6 (And.intro st6 (HG4.out.trans hg)))))
              go_wp2_with fail
              refine ⟨?_, by simp [intOf]; omega⟩
              obtain ⟨h1, h2, h3, h4, h5⟩ := HF2.out
              obtain ⟨f1, f2, f3⟩ := HF.out
              exact ⟨k + 1, n6, hkl, by go_num, by have := HN4.out; omega, h2.keep f3 (by intro e; injection e with e; omega), World.ownsRow.kept h3 f3 (.inr (fun e => by have := own_base h3 b (by rw [own_blk] at e; exact e); omega)), f2, gb_new h5 f3 (by intro g e; injection e with e; omega)⟩
            · obtain rfl : k = q := by omega
              have hgt : ¬ L ds.length (tk ds) a m < V ds.length (tk ds) a m k := by
                have h2 := HQ.out.2.2.2.2.2
                omega
              have HLL := Lib.hid hb
              clear sdr gdr hb
              go_wp2_with fail
              go_region_held3 (fun w' => w'.cell? ⟨sb, 0, none⟩ = some (.int .i64 a) ∧ w'.cell? ⟨sb, 1, none⟩ = some (.int .i64 m))
                (first
                  | (go_split_ands
                     exact ⟨hg.cell (by assumption) (by simp [hne]), hg.cell (by assumption) (by simp [hne])⟩)
                  | exact ⟨c0, c1⟩)
                (first
                  | (go_at_call 103; refine (HLV1.out _).mono ?_; rintro e w3 ⟨rfl, hg⟩; have HS3 := Lib.hid (SDR.out.1.kept0 hg); have HG3 := Lib.hid ((gb_drewN wr 1 none).trans hg))
                  | (go_at_call 104; refine (HBY.out k n2 _ hkd HLL.out HS3.out (by have := HB2.out; omega)).mono ?_; rintro e w4 ⟨rfl, n4, hn4, st4, hg⟩; have HS4 := Lib.hid st4; have HN4 := Lib.hid hn4; have HG4 := Lib.hid ((gb_any HG3.out (some b)).trans hg))
                  | (go_at_call 102; refine (HLE.out n4 _ HS4.out (by have := HB2.out; have := HN4.out; omega)).mono ?_; rintro e w5 ⟨rfl, n6, hn6, st6, hg⟩; have HF := Lib.hid (And.intro hn6 (And.intro st6 (HG4.out.trans hg)))))
              go_wp2_with fail
              obtain ⟨h1, h2, h3, h4, h5⟩ := HF2.out
              obtain ⟨f1, f2, f3⟩ := HF.out
              have s5 := h2.keep f3 (by intro e; injection e with e; omega)
              have o5 := World.ownsRow.kept h3 f3 (.inr (fun e => by have := own_base h3 b (by rw [own_blk] at e; exact e); omega))
              have g5 := gb_new h5 f3 (by intro g e; injection e with e; omega)
              have hn6 : n6 ≤ (p ++ [k]).length * 3000000 := by
                have h6 := HN4.out
                have h7 := HN.out
                rw [List.length_append, List.length_singleton, Nat.succ_mul]
                omega
              have HKT := Lib.hid HLL.out
              have hp8 : p.length < 100000 := by have := HI1.out.cnt; omega
              have HS6 := Lib.hid (And.intro s5 (And.intro o5 (And.intro f2 (And.intro g5 hn6))))
              have HNX := Lib.hid (fun w => next_c a m k w HM.out.2.2 (by omega) HKT.out)
              obtain ⟨i0, hi0, hz0, hz1, hz2⟩ := info_parts tourQ.infoI
              have hsb5 := f2.bw
              clear h1 h2 h3 h4 h5 f1 f2 f3 HF HS3 HG3 HS4 HN4 HG4 HB2 SDR HF2 HBY HLE HLV HLV1 HLL hgt
              obtain ⟨A6, c6, w6, hrun, z1, z2⟩ := app_d (W := w5) (k : Int) i0 hi0 hz0 hz1 hz2 (show sb + 1 ≤ w5.heap.size from s5.lt) o5 hp8
              have hab := own_base o5
              have ga : w5.grownBy (w5.alloc (.cells #[.int .i64 (k : Int)] 2)).drew none := World.grownBy.trans (World.grownBy_alloc w5 (.cells #[.int .i64 (k : Int)] 2) none) (gb_drewN _ 1 none)
              have s6 := (s5.keep ga (by simp)).keep z2 (by intro e; have := hab sb e.symm; omega)
              obtain ⟨c0, c1, _, _⟩ := s5.facts
              have c2 := ga.cell c0 (by simp)
              have c3 := ga.cell c1 (by simp)
              have c0 : w5.drew.cell? ⟨sb, 0, none⟩ = some (.int .i64 a) := c0
              have c1 : w5.drew.cell? ⟨sb, 1, none⟩ = some (.int .i64 m) := c1
              obtain ⟨c4, c5, d4, d5⟩ := s6.facts
              have HZ := Lib.hid (And.intro z1 (And.intro z2 (And.intro s6 ga)))
              clear z1 z2 s6 ga s5 o5 g5 hn6
              go_region_with (first
                | (go_at_call 101; refine (HNX.out _).mono ?_; rintro e w7 ⟨rfl, hg⟩; have s7 := HZ.out.2.2.1.keep hg (by simp); obtain ⟨e4, e5, e6, e7⟩ := s7.facts; have HG7 := Lib.hid (And.intro hg s7); clear hg s7))
              all_goals
                go_wp2_with fail
                refine ⟨?_, by have := HI1.out.cnt; have := HPC.out; simp [sl]; omega⟩
                obtain ⟨s5, o5, t5, g5, hn6⟩ := HS6.out
                obtain ⟨z1, z2, _, ga⟩ := HZ.out
                obtain ⟨hg, s7⟩ := HG7.out
                obtain ⟨s8, gp1⟩ := s7.put1 (k : Int)
                obtain ⟨s9, gp2⟩ := s8.put2 ((m - 2 ^ k : Nat) : Int)
                have hfar : ∀ g, some sb = some g → b + 1 < g := fun g e => by injection e with e; omega
                have t9 := st_far (st_far ((st_far (t5.kept0 ga) z2 (fun g e => by have := hab g e; omega)).kept0 hg) gp1 hfar) gp2 hfar
                have o6 := own_kept0 z1 hg
                have hne6 : ∀ x : Nat, (Value.slice A6 (p.length + 1) c6).ownBlock = some x → sb < x := fun x e => by have := o6.lt x e; omega
                have o8 := World.ownsRow.kept o6 gp1 (.inr (fun e => by have := hne6 sb e; omega))
                have o9 := World.ownsRow.kept o8 gp2 (.inr (fun e => by have := hne6 sb e; omega))
                have hw0 : w.heap.size ≤ b := hw1
                have g9 := gb_new (gb_new ((gb_new (g5.trans ga) z2 (fun g e => by have := hab g e; omega)).trans hg) gp1 (fun g e => by injection e with e; omega)) gp2 (fun g e => by injection e with e; omega)
                rw [← gz_snoc] at o9
                refine ⟨p ++ [k], m - 2 ^ k, n6, HI1.out.next l7 hkd HKT.out, HTN.out, hn6, by rw [lp_snoc]; exact s9, ⟨A6, c6, by simp, by simpa using o9⟩, t9, g9⟩
end

end Go.Proofs.Ytmemclcoegmjjaa.shortT
