/- Groups of beams, plainly; the first group that fits, by the program. -/
import Derived.Test.YtmemclcoegmjjaaRows
import Derived.Test.YtmemclcoegmjjaaSlc
import Derived.Test.YtmemclcoegmjjaaSmall
import Derived.Test.YtmemclcoegmjjaaOpens
import Derived.Test.YtmemclcoegmjjaaListI
import Derived.Test.YtmemclcoegmjjaaBeams
import Derived.Test.YtmemclcoegmjjaaListBeam
import Derived.Test.YtmemclcoegmjjaaPlanNum
import Derived.Test.YtmemclcoegmjjaaSwT
import Derived.Test.YtmemclcoegmjjaaBeamsOk
import Derived.Test.YtmemclcoegmjjaaPlanDue
import Derived.WalkKit
import Derived.ProofKit
import Derived.OpenShut
import Derived.ShutString
import Derived.ChangeOld
import Derived.Below
import Derived.Lib.Hide
import Derived.BigQuiet
import Derived.Deep.QuietTactic
import Derived.WalkLawsBesides
import Derived.Outline
import Derived.Deep.QuietTactic
import Derived.BigQuiet
import Derived.Deep.LoopGhost
import Derived.Deep.RegionWith
import Derived.Deep.RegionHeld3
namespace Go.Proofs.Ytmemclcoegmjjaa.farF
open Go.ChangeShapes Go.WideShapes Go.ChangeAt Go.RowKit
open Go.ChangeMaps (open_string shut_string)
set_option linter.unusedVariables false
open Go Go.RowKit
open Go.Proofs.Ytmemclcoegmjjaa.slc Go.Proofs.Ytmemclcoegmjjaa.small Go.Proofs.Ytmemclcoegmjjaa.opens Go.Proofs.Ytmemclcoegmjjaa.beams Go.Proofs.Ytmemclcoegmjjaa.listBeam Go.Proofs.Ytmemclcoegmjjaa.planNum Go.Proofs.Ytmemclcoegmjjaa.swT Go.Proofs.Ytmemclcoegmjjaa.beamsOk Go.Proofs.Ytmemclcoegmjjaa.planDue

def gz (g : List Nat) : List Int := g.map fun (x : Nat) => (x : Int)
theorem gz_len (g : List Nat) : (gz g).length = g.length := by simp [gz]
theorem gz_at (g : List Nat) {i : Nat} (h : i < g.length) : (ints (gz g)).getD i undef = .int .i64 (g[i] : Nat) := by
  rw [ints_getD _ _ (by rw [gz_len]; exact h)]
  simp [gz]
/-- Two beams are nearer than apart. -/
def nearB (bs : List Bm) (ap : Int) (x k : Nat) : Bool := decide (df (bg bs x).1 (bg bs x).2.1 (bg bs k).1 (bg bs k).2.1 < ap)
/-- How many of a group's first ones are not near. -/
def fitB (bs : List Bm) (ap : Int) (g : List Nat) (k : Nat) : Bool := g.all fun x => !nearB bs ap x k
def grOk (bs : List Bm) (g : List Nat) : Prop := ∀ i (h : i < g.length), g[i] < bs.length
/-- The first index of a list at which a test holds. -/
def fst {α : Type} (p : α → Bool) (l : List α) : Nat := l.findIdx p

/-- What the closure on two beams holds. -/
structure Cap (w : World) (A : Option Addr) (n c : Nat) (p1 p2 p3 : Nat) (bs : List Bm) (k : Nat) (ap : Int) : Prop where
  bm : w.cell? ⟨p1, 0, none⟩ = some (.slice A n c)
  u : w.cell? ⟨p2, 0, none⟩ = some (.int .i64 (bg bs k).1)
  v : w.cell? ⟨p2, 1, none⟩ = some (.int .i64 (bg bs k).2.1)
  ap : w.cell? ⟨p3, 0, none⟩ = some (.int .i64 ap)
theorem Cap.kept {w w' : World} {A : Option Addr} {n c p1 p2 p3 : Nat} {bs : List Bm} {k : Nat} {ap : Int} (h : Cap w A n c p1 p2 p3 bs k ap) (hg : w.grownBy w' none) : Cap w' A n c p1 p2 p3 bs k ap :=
  ⟨hg.cell h.bm (by simp), hg.cell h.u (by simp), hg.cell h.v (by simp), hg.cell h.ap (by simp)⟩

set_option maxHeartbeats 1600000 in
set_option maxRecDepth 100000 in
theorem near_c (A : Option Addr) (c B p1 p2 p3 : Nat) (bs : List Bm) (k x : Nat) (ap : Int) (w : World) (hk : BsOk bs) (hkl : k < bs.length) (hx : x < bs.length) (hr : Rd w B A (bs.length * 4) (bcell bs)) (hB : B ≤ w.heap.size) (hc : Cap w A bs.length c p1 p2 p3 bs k ap) :
    Calls Try.prog 106 #[.int .i64 x, .pointer (some ⟨p1, 0, none⟩), .pointer (some ⟨p2, 0, none⟩), .pointer (some ⟨p3, 0, none⟩)] w fun e w' => e = .returned (.bool (nearB bs ap x k)) ∧ w.grownBy w' none := by
  obtain ⟨ad, u, v, d, s, rfl, _, hxx, e0, e1, _, _⟩ := Rd.four hr hx
  have hb1 := hk.bd x hx
  have hb2 := hk.bd k hkl
  rw [show bg bs x = _ from hxx] at hb1
  replace hb1 : Bd u v := hb1
  obtain ⟨c1, c2, c3, c4⟩ := hc
  have hnb : nearB bs ap x k = decide (df u v (bg bs k).1 (bg bs k).2.1 < ap) := by unfold nearB; rw [show bg bs x = _ from hxx]
  rw [hnb]
  generalize (bg bs k).1 = u2 at *
  generalize (bg bs k).2.1 = v2 at *
  obtain ⟨d0, d1⟩ := df_bd hb1 hb2
  have HD := Lib.hid (fun w => diff_c u v u2 v2 w hb1 hb2)
  generalize df u v u2 v2 = D at *
  have x0 : (0 : Int) ≤ (x : Int) := by omega
  have x1 : (x : Int) < (bs.length : Int) := by omega
  have q7 := World.grownBy.refl w none
  clear hk hr hxx hb1 hb2 hnb
  go_enter Try.func106, Try.ntmps106
  go_wp2_with fail
  go_region_held3 (fun w' => w'.cell? ⟨p1, 0, none⟩ = some (.slice (some ad) bs.length c) ∧ w'.cell? ⟨p2, 0, none⟩ = some (.int .i64 u2) ∧ w'.cell? ⟨p2, 1, none⟩ = some (.int .i64 v2) ∧ w'.cell? ⟨p3, 0, none⟩ = some (.int .i64 ap) ∧ w'.cell? (ad.add (x * 4)) = some (.int .i64 u) ∧ w'.cell? ⟨(ad.add (x * 4)).block, (ad.add (x * 4)).off + 1, none⟩ = some (.int .i64 v) ∧ w.grownBy w' none)
    (first
      | (go_split_ands
         exact ⟨hg.cell (by assumption) (by simp), hg.cell (by assumption) (by simp), hg.cell (by assumption) (by simp), hg.cell (by assumption) (by simp), hg.cell (by assumption) (by simp), hg.cell (by assumption) (by simp), World.grownBy.trans (by assumption) hg⟩)
      | exact ⟨c1, c2, c3, c4, e0, e1, ⟨q7.os, q7.tape, q7.output, q7.size, q7.block⟩⟩)
    ((go_at_call 107; refine (HD.out _).mono ?_; rintro e w6 ⟨rfl, hg⟩; have gT : w.grownBy w6 none := (by refine World.grownBy.trans ?_ hg; exact ⟨q7.os, q7.tape, q7.output, q7.size, q7.block⟩)))
  go_wp2_with fail
  go_ret
  exact ⟨rfl, gT⟩

/-- The first one of a group that is near. -/
theorem find_step {α : Type} (p : α → Bool) (l : List α) (k : Nat) (hk : k < l.length) (h : ∀ i (hi : i < k), p (l[i]'(by omega)) = false) : (p l[k] = true → l.findIdx p = k) := fun hp => by
  rw [List.findIdx_eq hk]
  exact ⟨hp, fun j hj => h j hj⟩
theorem find_none {α : Type} (p : α → Bool) (l : List α) (h : ∀ i (hi : i < l.length), p l[i] = false) : l.findIdx p = l.length := by
  rw [List.findIdx_eq_length]
  intro x hx
  obtain ⟨i, hi, rfl⟩ := List.getElem_of_mem hx
  exact h i hi
def fx (b : Bool) (i : Nat) : Int := if b = true then (i : Int) else -1

set_option maxHeartbeats 1600000 in
set_option maxRecDepth 100000 in
theorem index_c (A : Option Addr) (c B p1 p2 p3 : Nat) (bs : List Bm) (k : Nat) (ap : Int) (A' : Option Addr) (c' : Nat) (g : List Nat) (w : World) (hk : BsOk bs) (hkl : k < bs.length) (hg0 : grOk bs g) (hgl : g.length ≤ 1000) (hr : Rd w B A (bs.length * 4) (bcell bs)) (hr' : Rd w B A' g.length (fun j => (ints (gz g)).getD j undef)) (hB : B ≤ w.heap.size) (hc : Cap w A bs.length c p1 p2 p3 bs k ap) :
    Calls Try.prog 152 #[.slice A' g.length c', .func (.func 106) #[] #[.pointer (some ⟨p1, 0, none⟩), .pointer (some ⟨p2, 0, none⟩), .pointer (some ⟨p3, 0, none⟩)]] w fun e w' => e = .returned (.int .i64 (fx (!fitB bs ap g k) (g.findIdx fun x => nearB bs ap x k))) ∧ w.grownBy w' none := by
  have HN := Lib.hid (fun (x : Nat) (hx : x < bs.length) (w' : World) (hg : w.grownBy w' none) => near_c A c B p1 p2 p3 bs k x ap w' hk hkl hx (hr.kept0 hg hB) (Nat.le_trans hB hg.size) (hc.kept hg))
  have HR := Lib.hid (fun (w' : World) (hg : w.grownBy w' none) => hr'.kept0 hg hB)
  have HG := Lib.hid hg0
  clear hr hr' hc hg0
  go_enter Try.func152, Try.ntmps152
  go_wp2_with fail
  go_loopw [8] (fun i wr => ∃ m : Nat, m ≤ g.length ∧ i = .int .i64 m ∧ (∀ i (hi : i < m) (hm : m ≤ g.length), nearB bs ap (g[i]'(by omega)) k = false) ∧ w.grownBy wr none) (fun i _ => g.length - (intOf i).toNat)
  case atStart => exact ⟨0, Nat.zero_le _, rfl, fun i hi _ => absurd hi (by omega), World.grownBy.refl _ _⟩
  case round =>
    obtain ⟨m, hm, rfl, hpre, hg⟩ := hrel
    by_cases hlt : m < g.length
    · obtain ⟨gd, rfl, _, hx⟩ := (HR.out wr hg).at_ hlt
      rw [gz_at g hlt] at hx
      have HX := Lib.hid (HN.out g[m] (HG.out m hlt) wr hg)
      have HPR := Lib.hid hpre
      have HGW := Lib.hid hg
      have m0 : (0 : Int) ≤ (m : Int) := by omega
      have m1 : (m : Int) < (g.length : Int) := by omega
      generalize hgm : g[m] = q at *
      clear hpre hg
      go_wp2_with fail
      refine HX.out.mono ?_
      rintro e w2 ⟨rfl, hg2⟩
      have HG2 := Lib.hid (HGW.out.trans hg2)
      clear hg2
      cases hn : nearB bs ap q k
      · have HPR2 := Lib.hid (fun i (hi : i < m + 1) (hm : m + 1 ≤ g.length) => show nearB bs ap (g[i]'(by omega)) k = false by
          by_cases e : i = m
          · subst e; rw [hgm]; exact hn
          · exact HPR.out i (by omega) (by omega))
        clear hn hgm
        go_wp2_with fail
        go_roundw
        case rel => exact ⟨m + 1, by omega, by go_num, HPR2.out, HG2.out⟩
        case measure => simp [intOf]; omega
      · have HV := Lib.hid (show fx (!fitB bs ap g k) (g.findIdx fun x => nearB bs ap x k) = (m : Int) by
          have h1 := find_step (fun x => nearB bs ap x k) g m hlt (fun i hi => HPR.out i hi (by omega)) (by show nearB bs ap g[m] k = true; rw [hgm]; exact hn)
          rw [h1]
          unfold fx
          rw [if_pos]
          unfold fitB
          simp only [Bool.not_eq_true', List.all_eq_false]
          exact ⟨g[m], List.getElem_mem hlt, by rw [hgm, hn]; simp⟩)
        clear hn hgm
        go_wp2_with fail
        go_ret
        exact ⟨ret_int HV.out.symm, HG2.out⟩
    · obtain rfl : m = g.length := by omega
      have HV := Lib.hid (show fx (!fitB bs ap g k) (g.findIdx fun x => nearB bs ap x k) = -1 by
        unfold fx
        rw [if_neg]
        unfold fitB
        simp only [Bool.not_eq_true', Bool.not_eq_false, List.all_eq_true]
        intro x hx
        obtain ⟨i, hi, rfl⟩ := List.getElem_of_mem hx
        rw [hpre i hi (Nat.le_refl _)]
        try rfl)
      clear hpre
      go_wp2_with fail
      go_ret
      exact ⟨ret_int HV.out.symm, hg⟩

set_option maxHeartbeats 1600000 in
set_option maxRecDepth 100000 in
theorem contains_c (A : Option Addr) (c B p1 p2 p3 : Nat) (bs : List Bm) (k : Nat) (ap : Int) (A' : Option Addr) (c' : Nat) (g : List Nat) (w : World) (hk : BsOk bs) (hkl : k < bs.length) (hg0 : grOk bs g) (hgl : g.length ≤ 1000) (hr : Rd w B A (bs.length * 4) (bcell bs)) (hr' : Rd w B A' g.length (fun j => (ints (gz g)).getD j undef)) (hB : B ≤ w.heap.size) (hc : Cap w A bs.length c p1 p2 p3 bs k ap) :
    Calls Try.prog 110 #[.slice A' g.length c', .func (.func 106) #[] #[.pointer (some ⟨p1, 0, none⟩), .pointer (some ⟨p2, 0, none⟩), .pointer (some ⟨p3, 0, none⟩)]] w fun e w' => e = .returned (.bool (!fitB bs ap g k)) ∧ w.grownBy w' none := by
  have HI := Lib.hid (index_c A c B p1 p2 p3 bs k ap A' c' g w hk hkl hg0 hgl hr hr' hB hc)
  clear hr hr' hc hg0
  cases hf : (!fitB bs ap g k)
  · rw [hf] at HI
    have HI2 := HI
    clear HI
    replace HI2 := Lib.hid (show Calls Try.prog 152 _ w (fun e w' => e = .returned (.int .i64 (-1)) ∧ w.grownBy w' none) from HI2.out)
    clear hf
    go_enter Try.func110, Try.ntmps110
    go_wp2_with fail
    refine HI2.out.mono ?_
    rintro e w2 ⟨rfl, hg2⟩
    go_wp2_with fail
    go_ret
    exact ⟨rfl, hg2⟩
  · rw [hf] at HI
    have hle : g.findIdx (fun x => nearB bs ap x k) ≤ g.length := List.findIdx_le_length
    have HI2 := HI
    clear HI
    replace HI2 := Lib.hid (show Calls Try.prog 152 _ w (fun e w' => e = .returned (.int .i64 ((g.findIdx (fun x => nearB bs ap x k) : Nat) : Int)) ∧ w.grownBy w' none) from HI2.out)
    clear hf
    generalize g.findIdx (fun x => nearB bs ap x k) = q at *
    go_enter Try.func110, Try.ntmps110
    go_wp2_with fail
    refine HI2.out.mono ?_
    rintro e w2 ⟨rfl, hg2⟩
    go_wp2_with fail
    go_ret
    exact ⟨rfl, hg2⟩

set_option maxHeartbeats 1600000 in
set_option maxRecDepth 100000 in
theorem fit_c (A : Option Addr) (c B p1 p2 p3 p4 : Nat) (bs : List Bm) (k : Nat) (ap : Int) (A' : Option Addr) (c' : Nat) (g : List Nat) (w : World) (hk : BsOk bs) (hkl : k < bs.length) (hg0 : grOk bs g) (hgl : g.length ≤ 1000) (hr : Rd w B A (bs.length * 4) (bcell bs)) (hr' : Rd w B A' g.length (fun j => (ints (gz g)).getD j undef)) (hB : B ≤ w.heap.size) (hc : Cap w A bs.length c p1 p2 p3 bs k ap)
    (h4 : w.cell? ⟨p4, 0, none⟩ = some (.func (.func 106) #[] #[.pointer (some ⟨p1, 0, none⟩), .pointer (some ⟨p2, 0, none⟩), .pointer (some ⟨p3, 0, none⟩)])) :
    Calls Try.prog 109 #[.slice A' g.length c', .pointer (some ⟨p4, 0, none⟩)] w fun e w' => e = .returned (.bool (fitB bs ap g k)) ∧ w.grownBy w' none := by
  have HI := Lib.hid (contains_c A c B p1 p2 p3 bs k ap A' c' g w hk hkl hg0 hgl hr hr' hB hc)
  clear hr hr' hc hg0
  go_enter Try.func109, Try.ntmps109
  go_wp2_with fail
  refine HI.out.mono ?_
  rintro e w2 ⟨rfl, hg2⟩
  go_wp2_with fail
  go_ret
  exact ⟨by first | rfl | simp, hg2⟩

/-- Groups lie in memory. -/
structure RdG (w : World) (B : Nat) (O : Option Addr) (G : List (List Nat)) (AA : Nat → Option Addr) (cc : Nat → Nat) : Prop where
  outer : Rd w B O G.length (fun i => .slice (AA i) (G.getD i []).length (cc i))
  rows : ∀ i, i < G.length → Rd w B (AA i) (G.getD i []).length (fun j => (ints (gz (G.getD i []))).getD j undef)
/-- The index of the first group that fits, or -1. -/
def ix (bs : List Bm) (ap : Int) (G : List (List Nat)) (k : Nat) : Nat := G.findIdx fun g => fitB bs ap g k

def ixI (bs : List Bm) (ap : Int) (G : List (List Nat)) (k : Nat) : Int := if ix bs ap G k < G.length then ((ix bs ap G k : Nat) : Int) else -1

set_option maxHeartbeats 1600000 in
set_option maxRecDepth 100000 in
theorem groups_c (A : Option Addr) (c B p1 p2 p3 p4 : Nat) (bs : List Bm) (k : Nat) (ap : Int) (O : Option Addr) (d : Nat) (G : List (List Nat)) (AA : Nat → Option Addr) (cc : Nat → Nat) (w : World) (hk : BsOk bs) (hkl : k < bs.length) (hg0 : ∀ i, i < G.length → grOk bs (G.getD i []) ∧ (G.getD i []).length ≤ 1000) (hgl : G.length ≤ 1000) (hr : Rd w B A (bs.length * 4) (bcell bs)) (hr' : RdG w B O G AA cc) (hB : B ≤ w.heap.size) (hc : Cap w A bs.length c p1 p2 p3 bs k ap)
    (h4 : w.cell? ⟨p4, 0, none⟩ = some (.func (.func 106) #[] #[.pointer (some ⟨p1, 0, none⟩), .pointer (some ⟨p2, 0, none⟩), .pointer (some ⟨p3, 0, none⟩)])) :
    Calls Try.prog 108 #[.slice O G.length d, .func (.func 109) #[] #[.pointer (some ⟨p4, 0, none⟩)]] w fun e w' => e = .returned (.int .i64 (ixI bs ap G k)) ∧ w.grownBy w' none := by
  have HN := Lib.hid (fun (i : Nat) (hi : i < G.length) (w' : World) (hg : w.grownBy w' none) => fit_c A c B p1 p2 p3 p4 bs k ap (AA i) (cc i) (G.getD i []) w' hk hkl (hg0 i hi).1 (hg0 i hi).2 (hr.kept0 hg hB) ((hr'.rows i hi).kept0 hg hB) (Nat.le_trans hB hg.size) (hc.kept hg) (hg.cell h4 (by simp)))
  have HR := Lib.hid (fun (w' : World) (hg : w.grownBy w' none) => hr'.outer.kept0 hg hB)
  clear hr hr' hc hg0 h4
  go_enter Try.func108, Try.ntmps108
  go_wp2_with fail
  go_loopw [8] (fun i wr => ∃ m : Nat, m ≤ G.length ∧ i = .int .i64 m ∧ (∀ i (hi : i < m) (hm : m ≤ G.length), fitB bs ap (G[i]'(by omega)) k = false) ∧ w.grownBy wr none) (fun i _ => G.length - (intOf i).toNat)
  case atStart => exact ⟨0, Nat.zero_le _, rfl, fun i hi _ => absurd hi (by omega), World.grownBy.refl _ _⟩
  case round =>
    obtain ⟨m, hm, rfl, hpre, hg⟩ := hrel
    by_cases hlt : m < G.length
    · obtain ⟨gd, rfl, _, hx⟩ := (HR.out wr hg).at_ hlt
      have HX := Lib.hid (HN.out m hlt wr hg)
      have HPR := Lib.hid hpre
      have HGW := Lib.hid hg
      have m0 : (0 : Int) ≤ (m : Int) := by omega
      have m1 : (m : Int) < (G.length : Int) := by omega
      have hgm : G.getD m [] = G[m] := by simp [List.getD, hlt]
      have HGM := Lib.hid hgm
      generalize G.getD m [] = q at *
      generalize AA m = a1 at *
      generalize cc m = c1 at *
      clear hpre hg hgm
      go_wp2_with fail
      refine HX.out.mono ?_
      rintro e w2 ⟨rfl, hg2⟩
      have HG2 := Lib.hid (HGW.out.trans hg2)
      clear hg2
      cases hn : fitB bs ap q k
      · have HPR2 := Lib.hid (fun i (hi : i < m + 1) (hm : m + 1 ≤ G.length) => show fitB bs ap (G[i]'(by omega)) k = false by
          by_cases e : i = m
          · subst e; rw [← HGM.out]; exact hn
          · exact HPR.out i (by omega) (by omega))
        clear hn
        go_wp2_with fail
        go_roundw
        case rel => exact ⟨m + 1, by omega, by go_num, HPR2.out, HG2.out⟩
        case measure => simp [intOf]; omega
      · have HV := Lib.hid (show (ixI bs ap G k) = (m : Int) by
          have h1 := find_step (fun g => fitB bs ap g k) G m hlt (fun i hi => HPR.out i hi (by omega)) (by show fitB bs ap G[m] k = true; rw [← HGM.out]; exact hn)
          unfold ixI ix
          rw [h1, if_pos hlt])
        clear hn
        go_wp2_with fail
        go_ret
        exact ⟨ret_int HV.out.symm, HG2.out⟩
    · obtain rfl : m = G.length := by omega
      have HV := Lib.hid (show (ixI bs ap G k) = -1 by
        unfold ixI ix
        rw [find_none _ _ (fun i hi => hpre i hi (Nat.le_refl _)), if_neg (by omega)])
      clear hpre
      go_wp2_with fail
      go_ret
      exact ⟨ret_int HV.out.symm, hg⟩

end Go.Proofs.Ytmemclcoegmjjaa.farF
