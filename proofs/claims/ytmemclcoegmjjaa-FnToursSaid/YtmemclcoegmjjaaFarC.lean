/- Groups of beams, by the program. -/
import Derived.Test.YtmemclcoegmjjaaRows
import Derived.Test.YtmemclcoegmjjaaSlc
import Derived.Test.YtmemclcoegmjjaaSmall
import Derived.Test.YtmemclcoegmjjaaOpens
import Derived.Test.YtmemclcoegmjjaaListI
import Derived.Test.YtmemclcoegmjjaaNestI
import Derived.Test.YtmemclcoegmjjaaBeams
import Derived.Test.YtmemclcoegmjjaaListBeam
import Derived.Test.YtmemclcoegmjjaaPlanNum
import Derived.Test.YtmemclcoegmjjaaSwT
import Derived.Test.YtmemclcoegmjjaaBeamsOk
import Derived.Test.YtmemclcoegmjjaaPlanDue
import Derived.Test.YtmemclcoegmjjaaFarF
import Derived.Test.YtmemclcoegmjjaaNestG
import Derived.WalkKit
import Derived.ProofKit
import Derived.OpenShut
import Derived.ShutString
import Derived.ChangeOld
import Derived.Below
import Derived.Lib.Hide
import Derived.BigQuiet
import Derived.Deep.QuietTactic
import Derived.WalkLawsBesides
import Derived.Outline
import Derived.Deep.QuietTactic
import Derived.BigQuiet
import Derived.Deep.LoopGhost
import Derived.Deep.RegionWith
import Derived.Deep.RegionHeld3
import Derived.Deep.OwnRows
namespace Go.Proofs.Ytmemclcoegmjjaa.farC
open Go.ChangeShapes Go.WideShapes Go.ChangeAt Go.RowKit
open Go.ChangeMaps (open_string shut_string)
set_option linter.unusedVariables false
open Go Go.RowKit
open Go.Proofs.Ytmemclcoegmjjaa.slc Go.Proofs.Ytmemclcoegmjjaa.small Go.Proofs.Ytmemclcoegmjjaa.opens Go.Proofs.Ytmemclcoegmjjaa.listI Go.Proofs.Ytmemclcoegmjjaa.nestI Go.Proofs.Ytmemclcoegmjjaa.beams Go.Proofs.Ytmemclcoegmjjaa.listBeam Go.Proofs.Ytmemclcoegmjjaa.planNum Go.Proofs.Ytmemclcoegmjjaa.beamsOk Go.Proofs.Ytmemclcoegmjjaa.planDue Go.Proofs.Ytmemclcoegmjjaa.farF Go.Proofs.Ytmemclcoegmjjaa.nestG

/-- A beam more in the groups. -/
def stp (bs : List Bm) (ap : Int) (G : List (List Nat)) (k : Nat) : List (List Nat) :=
  if ix bs ap G k < G.length then G.set (ix bs ap G k) (G.getD (ix bs ap G k) [] ++ [k]) else G ++ [[k]]
def grp (bs : List Bm) (ap : Int) : Nat → List (List Nat)
  | 0 => []
  | k + 1 => stp bs ap (grp bs ap k) k
/-- What holds of the groups of k beams. -/
structure GI (bs : List Bm) (G : List (List Nat)) (k : Nat) : Prop where
  len : G.length ≤ k
  row : ∀ i, i < G.length → grOk bs (G.getD i []) ∧ 1 ≤ (G.getD i []).length ∧ (G.getD i []).length ≤ k
theorem grOk_snoc {bs : List Bm} {g : List Nat} {k : Nat} (h : grOk bs g) (hk : k < bs.length) : grOk bs (g ++ [k]) := fun i hi => by
  rw [List.getElem_append]
  split
  · exact h i (by assumption)
  · simpa using hk
theorem GI.step {bs : List Bm} {ap : Int} {G : List (List Nat)} {k : Nat} (h : GI bs G k) (hk : k < bs.length) : GI bs (stp bs ap G k) (k + 1) := by
  unfold stp
  split
  · rename_i hi
    refine ⟨by rw [List.length_set]; have := h.len; omega, fun j hj => ?_⟩
    rw [List.length_set] at hj
    rw [getD_set _ _ _ _ _ hi]
    obtain ⟨a1, a2, a3⟩ := h.row j hj
    split
    · obtain ⟨b1, b2, b3⟩ := h.row _ hi
      exact ⟨grOk_snoc b1 hk, by rw [List.length_append, List.length_singleton]; omega, by rw [List.length_append, List.length_singleton]; omega⟩
    · exact ⟨a1, a2, by omega⟩
  · refine ⟨by simp; have := h.len; omega, fun j hj => ?_⟩
    rw [List.length_append, List.length_singleton] at hj
    rw [getD_snoc]
    by_cases e : j < G.length
    · rw [if_pos e]
      obtain ⟨a1, a2, a3⟩ := h.row j e
      exact ⟨a1, a2, by omega⟩
    · rw [if_neg e, if_pos (by omega)]
      exact ⟨fun i hi => by simp at hi; subst hi; simpa using hk, by simp, by simp⟩
theorem GI.all {bs : List Bm} {ap : Int} : ∀ k, k ≤ bs.length → GI bs (grp bs ap k) k
  | 0, _ => ⟨by simp [grp], fun i hi => absurd hi (by simp [grp])⟩
  | k + 1, h => (GI.all k (by omega)).step (by omega)
def aA (V : List Value) (i : Nat) : Option Addr := match V.getD i undef with | .slice A _ _ => A | _ => none
def cA (V : List Value) (i : Nat) : Nat := match V.getD i undef with | .slice _ _ c => c | _ => 0
theorem gs_at {w : World} {base : Nat} {v : Value} {G : List (List Nat)} {V : List Value} (h : GS w base v G V) {i : Nat} (hi : i < G.length) : V.getD i undef = .slice (aA V i) (G.getD i []).length (cA V i) := by
  obtain ⟨A, c, e⟩ := row_slice (h.rows i hi)
  unfold aA cA
  rw [e]
theorem gs_rd {w : World} {base d : Nat} {O : Option Addr} {G : List (List Nat)} {V : List Value} (h : GS w base (.slice O G.length d) G V) : RdG w w.heap.size O G (aA V) (cA V) :=
  ⟨(Rd.of_own h.outer (Nat.mul_one _).symm).congr fun j hj => gs_at h hj, fun i hi => by
    have := h.rows i hi
    rw [gs_at h hi] at this
    exact Rd.of_own this (Nat.mul_one _).symm⟩
theorem gs_mono {w : World} {b b' : Nat} {v : Value} {G : List (List Nat)} {V : List Value} (h : GS w b v G V) (hb : b' ≤ b) : GS w b' v G V :=
  ⟨h.len, own_mono h.outer hb, fun i hi => own_mono (h.rows i hi) hb, h.apart, h.other⟩
theorem set_nil (G : List (List Nat)) (k : Nat) : (G ++ [[]]).set G.length ((G ++ [[]]).getD G.length [] ++ [k]) = G ++ [[k]] := by
  rw [getD_snoc, if_neg (by omega), if_pos rfl]
  simp
theorem box_cell' (w : World) (x : Value) (t : TypeId) : (w.alloc (.cells #[x] t)).cell? ⟨w.heap.size, 0, none⟩ = some x := by simp
def fok (bs : List Bm) (ap : Int) : Bool := ab bs && decide (0 ≤ ap ∧ ap ≤ 128)
def FG (bs : List Bm) (ap : Int) : List (List Nat) := if fok bs ap = true then grp bs ap bs.length else []
theorem fok_ab {bs : List Bm} {ap : Int} (h : ab bs = false) : fok bs ap = false ∧ FG bs ap = [] := by
  have : fok bs ap = false := by unfold fok; rw [h]; rfl
  exact ⟨this, by unfold FG; rw [if_neg (by simp [this])]⟩
theorem fok_ap {bs : List Bm} {ap : Int} (h : ¬ (0 ≤ ap ∧ ap ≤ 128)) : fok bs ap = false ∧ FG bs ap = [] := by
  have : fok bs ap = false := by unfold fok; rw [decide_eq_false h]; simp
  exact ⟨this, by unfold FG; rw [if_neg (by simp [this])]⟩
theorem fok_yes {bs : List Bm} {ap : Int} (h : ab bs = true) (h2 : 0 ≤ ap ∧ ap ≤ 128) : fok bs ap = true ∧ FG bs ap = grp bs ap bs.length := by
  have : fok bs ap = true := by unfold fok; rw [h, decide_eq_true h2]; rfl
  exact ⟨this, by unfold FG; rw [if_pos this]⟩
theorem gs_nil (w : World) (base : Nat) : GS w base (.slice none ([] : List (List Nat)).length 0) [] [] := GS.start (World.ownsRow_nil _ _ _ _)

theorem run_store_func {P : Program} {w : World} {md : Mode} (a : Addr) (f : Fn) (xs ys : Array Value) : (store a (.func f xs ys) md).run P w = stored P w a (.func f xs ys) md := run_store P w a _ md rfl
theorem run_store_slice {P : Program} {w : World} {md : Mode} (a : Addr) (A : Option Addr) (n c : Nat) : (store a (.slice A n c) md).run P w = stored P w a (.slice A n c) md := run_store P w a _ md rfl
section
attribute [local go_sem ↓] app_stop
attribute [local go_sem] run_store_func run_store_slice
set_option maxHeartbeats 3200000 in
set_option maxRecDepth 100000 in
theorem far_impl (A : Option Addr) (c B : Nat) (bs : List Bm) (ap : Int) (w : World) (hm : bs.length ≤ 9223372036854775807) (hr : Rd w B A (bs.length * 4) (bcell bs)) (hB : B ≤ w.heap.size) :
    Calls Try.prog 40 #[.slice A bs.length c, .int .i64 ap] w fun e w' => ∃ O d V, e = .returned (.tuple #[.slice O (FG bs ap).length d, .bool (fok bs ap)]) ∧ GS w' w.heap.size (.slice O (FG bs ap).length d) (FG bs ap) V ∧ w.grownBy w' none := by
  have hbox : w.grownBy ((w.alloc (.cells #[.slice A bs.length c] 53)).alloc (.cells #[.int .i64 ap] 2)) none := (World.grownBy_alloc _ _ _).trans (World.grownBy_alloc _ _ _)
  have HA0 := are_impl A c B bs _ hm (hr.kept0 hbox hB) (Nat.le_trans hB hbox.size)
  cases ha : ab bs
  · rw [(fok_ab ha).1, (fok_ab ha).2]
    rw [ha] at HA0
    have HA := Lib.hid HA0
    clear HA0 hr ha
    go_enter Try.func40, Try.ntmps40
    go_wp2_with fail
    refine HA.out.mono ?_
    rintro e w1 ⟨rfl, g1⟩
    go_wp2_with fail
    go_ret2
    exact ⟨none, 0, [], rfl, gs_nil _ _, hbox.trans g1⟩
  · rw [ha] at HA0
    have HA := Lib.hid HA0
    by_cases hap : 0 ≤ ap ∧ ap ≤ 128
    · rw [(fok_yes ha hap).1, (fok_yes ha hap).2]
      have HK := Lib.hid (BsOk.of ha)
      have HR := Lib.hid (fun (w' : World) (hg : w.grownBy w' none) => hr.kept0 hg hB)
      have HGI := Lib.hid (fun k (h : k ≤ bs.length) => GI.all (ap := ap) k h)
      have hl7 := (BsOk.of ha).len
      obtain ⟨a0, a1⟩ := hap
      have HBX := Lib.hid hbox
      have c1 : ((w.alloc (.cells #[.slice A bs.length c] 53)).alloc (.cells #[.int .i64 ap] 2)).cell? ⟨w.heap.size, 0, none⟩ = some (.slice A bs.length c) := by simp
      have c2 : ((w.alloc (.cells #[.slice A bs.length c] 53)).alloc (.cells #[.int .i64 ap] 2)).cell? ⟨w.heap.size + 1, 0, none⟩ = some (.int .i64 ap) := by simp
      have hsz0 : ((w.alloc (.cells #[.slice A bs.length c] 53)).alloc (.cells #[.int .i64 ap] 2)).heap.size = w.heap.size + 2 := by simp
      clear HA0 hr ha hbox
      go_enter Try.func40, Try.ntmps40
      go_wp2_with fail
      refine HA.out.mono ?_
      rintro e w1 ⟨rfl, g1⟩
      have d1 := g1.cell c1 (by simp)
      have d2 := g1.cell c2 (by simp)
      have HG1 := Lib.hid g1
      clear g1
      go_wp2_with fail
      refine (within_yes _ _ _ _ a0 a1).mono ?_
      rintro e w' ⟨rfl, hw⟩
      subst hw
      generalize hW0 : (w.alloc (.cells #[.slice A bs.length c] 53)).alloc (.cells #[.int .i64 ap] 2) = W0 at *
      clear hW0
      go_wp2_with fail
      go_loopw [6, 21] (fun v i wr => ∃ k : Nat, k ≤ bs.length ∧ i = .int .i64 k ∧ (∃ O d V, v = .slice O (grp bs ap k).length d ∧ GS wr W0.heap.size (.slice O (grp bs ap k).length d) (grp bs ap k) V) ∧ W0.grownBy wr none) (fun _ i _ => bs.length - (intOf i).toNat)
      case atStart => exact ⟨0, Nat.zero_le _, rfl, ⟨none, 0, [], rfl, gs_nil _ _⟩, HG1.out⟩
      case round =>
        obtain ⟨k, hkn, rfl, ⟨O, d0, V, rfl, hGS⟩, hg⟩ := hrel
        have hgw := HBX.out.trans hg
        by_cases hlt : k < bs.length
        · obtain ⟨ad, u, v, d, s, rfl, _, hx, hc0, hc1, hc2, hc3⟩ := Rd.four (HR.out wr hgw) hlt
          have b1 := hg.cell c1 (by simp)
          have b2 := hg.cell c2 (by simp)
          have hsz : W0.heap.size ≤ wr.heap.size := hg.size
          have gA := World.grownBy_alloc wr (.cells #[.int .i64 u, .int .i64 v, .int .i64 d, .int .i64 s] 69) none
          have gB := World.grownBy_alloc (wr.alloc (.cells #[.int .i64 u, .int .i64 v, .int .i64 d, .int .i64 s] 69)) (.cells #[.func (.func 106) #[] #[.pointer (some ⟨w.heap.size, 0, none⟩), .pointer (some ⟨wr.heap.size, 0, none⟩), .pointer (some ⟨w.heap.size + 1, 0, none⟩)]] 118) none
          obtain ⟨⟨e0, e1, _, _⟩, _⟩ := cells4 (block1 gB)
          have hsA : (wr.alloc (.cells #[.int .i64 u, .int .i64 v, .int .i64 d, .int .i64 s] 69)).heap.size = wr.heap.size + 1 := by simp
          have h4 := box_cell' (wr.alloc (.cells #[.int .i64 u, .int .i64 v, .int .i64 d, .int .i64 s] 69)) (.func (.func 106) #[] #[.pointer (some ⟨w.heap.size, 0, none⟩), .pointer (some ⟨wr.heap.size, 0, none⟩), .pointer (some ⟨w.heap.size + 1, 0, none⟩)]) 118
          rw [hsA] at h4
          have hgi := HGI.out k (by omega)
          have hcap : Cap ((wr.alloc (.cells #[.int .i64 u, .int .i64 v, .int .i64 d, .int .i64 s] 69)).alloc (.cells #[.func (.func 106) #[] #[.pointer (some ⟨w.heap.size, 0, none⟩), .pointer (some ⟨wr.heap.size, 0, none⟩), .pointer (some ⟨w.heap.size + 1, 0, none⟩)]] 118)) (some ad) bs.length c w.heap.size wr.heap.size (w.heap.size + 1) bs k ap :=
            ⟨(gA.trans gB).cell b1 (by simp), by rw [show bg bs k = _ from hx]; exact e0, by rw [show bg bs k = _ from hx]; exact e1, (gA.trans gB).cell b2 (by simp)⟩
          have hGS2 := hGS.kept0 (gA.trans gB)
          have HX := Lib.hid (groups_c (some ad) c _ w.heap.size wr.heap.size (w.heap.size + 1) (wr.heap.size + 1) bs k ap O d0 (grp bs ap k) (aA V) (cA V) _ HK.out hlt (fun i hi => ⟨(hgi.row i hi).1, by have := (hgi.row i hi).2.2; omega⟩) (by have := hgi.len; omega) ((HR.out _ (hgw.trans (gA.trans gB))).mono (Nat.le_trans (Nat.le_trans hB hgw.size) (gA.trans gB).size)) (gs_rd hGS2) (Nat.le_refl _) hcap h4)
          have HG2 := Lib.hid (And.intro hGS2 (hg.trans (gA.trans gB)))
          have HGI2 := Lib.hid hgi
          clear hGS hg hgw hx gA gB hcap hGS2 e0 e1 hgi
          go_wp2_with fail
          refine HX.out.mono ?_
          rintro e w5 ⟨rfl, hg5⟩
          have G5 := Lib.hid (HG2.out.1.kept0 hg5)
          have H5 := Lib.hid (HG2.out.2.trans hg5)
          have hsz5 : W0.heap.size ≤ w5.heap.size := H5.out.size
          clear hg5 HX h4 b1 b2 hc0 hc1 hc2 hc3 HG2
          by_cases hix : ix bs ap (grp bs ap k) k < (grp bs ap k).length
          · have hiI : ixI bs ap (grp bs ap k) k = ((ix bs ap (grp bs ap k) k : Nat) : Int) := by unfold ixI; rw [if_pos hix]
            have HST := Lib.hid (show grp bs ap (k + 1) = (grp bs ap k).set (ix bs ap (grp bs ap k) k) ((grp bs ap k).getD (ix bs ap (grp bs ap k) k) [] ++ [k]) by
              show stp bs ap (grp bs ap k) k = _
              unfold stp
              rw [if_pos hix])
            rw [hiI]
            have hrow := HGI2.out.row _ hix
            have hlenk := HGI2.out.len
            generalize ix bs ap (grp bs ap k) k = q at *
            obtain ⟨gv, cap, hv, _, _⟩ := G5.out.outer.form (by omega)
            obtain ⟨rfl, rfl⟩ : O = some ⟨gv, 0, none⟩ ∧ d0 = cap := by injection hv with a b c; exact ⟨a, c⟩
            obtain ⟨A5, c5, A6, c6, w6, hV, hrun, y1, y2, y3, hS, hK⟩ := G5.out.grow (x := k) hix hsz5 (by omega)
            have HKK := Lib.hid (And.intro hS (hK W0 (Nat.le_refl _) H5.out))
            have q0 : (0 : Int) ≤ (q : Int) := by omega
            have q1 : (q : Int) < ((grp bs ap k).length : Int) := by omega
            have q2 : ¬ (q : Int) < 0 := by omega
            clear hS hK hV hv hrow hiI HGI2
            have hlen : (grp bs ap (k + 1)).length = (grp bs ap k).length := by rw [HST.out, List.length_set]
            have HLEN := Lib.hid hlen
            clear hlen
            generalize hgl : (grp bs ap k).length = N at *
            generalize ((grp bs ap k).getD q []).length = M at *
            go_wp2_with fail
            refine ⟨⟨k + 1, by omega, by go_num, ⟨some ⟨gv, 0, none⟩, d0, V.set q (.slice A6 (M + 1) c6), by rw [HLEN.out], ?_⟩, HKK.out.2⟩, by simp [intOf]; omega⟩
            rw [HLEN.out, HST.out]
            exact HKK.out.1
          · have hiI : ixI bs ap (grp bs ap k) k = -1 := by unfold ixI; rw [if_neg hix]
            have HST := Lib.hid (show grp bs ap (k + 1) = grp bs ap k ++ [[k]] by
              show stp bs ap (grp bs ap k) k = _
              unfold stp
              rw [if_neg hix])
            rw [hiI]
            have hlenk := HGI2.out.len
            obtain ⟨g6, c6, w6, hrun, hS6, hK6⟩ := G5.out.more (rv := .slice none 0 0) (g := []) hsz5 (by omega) (World.ownsRow_nil _ _ _ _) (fun i hi b _ => by simp [Value.ownBlock]) (fun b hb => by simp [Value.ownBlock] at hb) rfl
            have hle : (grp bs ap k ++ [[]]).length = (grp bs ap k).length + 1 := by simp
            have hg0 : (grp bs ap k ++ [[]]).getD (grp bs ap k).length [] = [] := by rw [getD_snoc, if_neg (by omega), if_pos rfl]
            have hS6' : GS w6 W0.heap.size (.slice (some ⟨g6, 0, none⟩) (grp bs ap k ++ [[]]).length c6) (grp bs ap k ++ [[]]) (V ++ [.slice none 0 0]) := by rw [hle]; exact hS6
            have H6 := Lib.hid (hK6 W0 (Nat.le_refl _) H5.out)
            have hsz6 : W0.heap.size ≤ w6.heap.size := H6.out.size
            obtain ⟨A5, c5, A7, c7, w7, hV, hrun2, y1, y2, y3, hS, hK⟩ := GS.grow (i := (grp bs ap k).length) (x := k) hS6' (by rw [hle]; omega) hsz6 (by rw [hg0]; decide)
            have hVn : (V ++ [Value.slice none 0 0]).getD (grp bs ap k).length undef = .slice none 0 0 := by rw [getD_snoc, G5.out.len, if_neg (by omega), if_pos rfl]
            rw [hVn, hg0] at hV
            obtain ⟨rfl, rfl⟩ : A5 = none ∧ c5 = 0 := by injection hV with a b c; exact ⟨a.symm, c.symm⟩
            have HKK := Lib.hid (And.intro hS (hK W0 (Nat.le_refl _) H6.out))
            rw [set_nil] at HKK
            rw [hle] at HKK
            rw [hg0] at hrun2 y1 y2 HKK
            rw [List.length_nil, Nat.zero_add] at hrun2 HKK
            rw [List.length_nil] at y1 y2
            have hlen : (grp bs ap (k + 1)).length = (grp bs ap k).length + 1 := by rw [HST.out]; simp
            have HLEN := Lib.hid hlen
            have q0 : (0 : Int) ≤ ((grp bs ap k).length : Int) := by omega
            have q1 : ((grp bs ap k).length : Int) < ((grp bs ap k).length : Int) + 1 := by omega
            have q2 : ¬ ((grp bs ap k).length : Int) < 0 := by omega
            clear hS hK hV hiI HGI2 hS6 hS6' hK6 hVn hg0 hle hlen hix
            generalize hgl : (grp bs ap k).length = N at *
            go_wp2_with fail
            refine ⟨⟨k + 1, by omega, by go_num, ⟨some ⟨g6, 0, none⟩, c6, (V ++ [Value.slice none 0 0]).set N (Value.slice A7 1 c7), by rw [HLEN.out], ?_⟩, HKK.out.2⟩, by simp [intOf]; omega⟩
            rw [HLEN.out, HST.out]
            exact HKK.out.1
        · obtain rfl : k = bs.length := by omega
          have HH := Lib.hid (And.intro (gs_mono hGS (show w.heap.size ≤ W0.heap.size by omega)) hgw)
          clear hGS hg hgw
          go_wp2_with fail
          go_ret2
          first | exact ⟨_, _, rfl, ⟨_, HH.out.1⟩, HH.out.2⟩ | exact ⟨_, _, _, rfl, HH.out.1, HH.out.2⟩
    · rw [(fok_ap hap).1, (fok_ap hap).2]
      have HN := Lib.hid (show ap < 0 ∨ 128 < ap by omega)
      have c2 : ((w.alloc (.cells #[.slice A bs.length c] 53)).alloc (.cells #[.int .i64 ap] 2)).cell? ⟨w.heap.size + 1, 0, none⟩ = some (.int .i64 ap) := by simp
      clear HA0 hr ha hap
      go_enter Try.func40, Try.ntmps40
      go_wp2_with fail
      refine HA.out.mono ?_
      rintro e w1 ⟨rfl, g1⟩
      have d2 := g1.cell c2 (by simp)
      go_wp2_with fail
      refine (within_no _ _ _ _ HN.out).mono ?_
      rintro e w' ⟨rfl, hw⟩
      subst hw
      go_wp2_with fail
      go_ret2
      exact ⟨none, 0, [], rfl, gs_nil _ _, hbox.trans g1⟩
end

end Go.Proofs.Ytmemclcoegmjjaa.farC
