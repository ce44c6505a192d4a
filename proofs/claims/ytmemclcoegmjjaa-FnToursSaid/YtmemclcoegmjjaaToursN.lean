/- Tours, groups and the nearest beam: what the law compares. -/
import Derived.Test.YtmemclcoegmjjaaRows
import Derived.Test.YtmemclcoegmjjaaSlc
import Derived.Test.YtmemclcoegmjjaaSmall
import Derived.Test.YtmemclcoegmjjaaListI
import Derived.Test.YtmemclcoegmjjaaOpens
import Derived.Test.YtmemclcoegmjjaaNestI
import Derived.Test.YtmemclcoegmjjaaBeams
import Derived.Test.YtmemclcoegmjjaaListBeam
import Derived.Test.YtmemclcoegmjjaaPlanNum
import Derived.Test.YtmemclcoegmjjaaSwT
import Derived.Test.YtmemclcoegmjjaaBeamsOk
import Derived.Test.YtmemclcoegmjjaaPlanDue
import Derived.Test.YtmemclcoegmjjaaFarF
import Derived.Test.YtmemclcoegmjjaaNestG
import Derived.Test.YtmemclcoegmjjaaFarC
import Derived.Test.YtmemclcoegmjjaaNearC
import Derived.Test.YtmemclcoegmjjaaDirsOk
import Derived.Test.YtmemclcoegmjjaaSortO
import Derived.Test.YtmemclcoegmjjaaSeqV
import Derived.Test.YtmemclcoegmjjaaOrdC
import Derived.Test.YtmemclcoegmjjaaTourC
import Derived.Test.YtmemclcoegmjjaaTourN
import Derived.Test.YtmemclcoegmjjaaTourM
import Derived.Test.YtmemclcoegmjjaaTourS
import Derived.Test.YtmemclcoegmjjaaTourQ
import Derived.Test.YtmemclcoegmjjaaListDir
import Derived.Test.YtmemclcoegmjjaaTourB
import Derived.WalkKit
import Derived.ProofKit
import Derived.OpenShut
import Derived.ShutString
import Derived.ChangeOld
import Derived.Below
import Derived.Lib.Hide
import Derived.BigQuiet
import Derived.Deep.QuietTactic
import Derived.WalkLawsBesides
import Derived.Outline
import Derived.Deep.LoopGhost
namespace Go.Proofs.Ytmemclcoegmjjaa.toursN
open Go.ChangeShapes Go.WideShapes Go.ChangeAt Go.RowKit
open Go.ChangeMaps (open_string shut_string)
set_option linter.unusedVariables false
open Go Go.RowKit
open Go.Proofs.Ytmemclcoegmjjaa.slc Go.Proofs.Ytmemclcoegmjjaa.small Go.Proofs.Ytmemclcoegmjjaa.listI Go.Proofs.Ytmemclcoegmjjaa.planNum Go.Proofs.Ytmemclcoegmjjaa.nestG Go.Proofs.Ytmemclcoegmjjaa.dirsOk Go.Proofs.Ytmemclcoegmjjaa.ordC Go.Proofs.Ytmemclcoegmjjaa.tourC Go.Proofs.Ytmemclcoegmjjaa.tourN Go.Proofs.Ytmemclcoegmjjaa.tourM Go.Proofs.Ytmemclcoegmjjaa.farF Go.Proofs.Ytmemclcoegmjjaa.farC Go.Proofs.Ytmemclcoegmjjaa.nearC Go.Proofs.Ytmemclcoegmjjaa.tourB

/-- No full way behind a partial order is shorter than told. -/
theorem TV_le (ds : List (Int × Int)) {n : Nat} (h7 : n ≤ 7) : ∀ (r p : List Nat) (m : Nat), Inv n p m → (p ++ r).Nodup → (∀ x ∈ r, x < n) → (p ++ r).length = n → TV ds n p m ≤ pim ds (gz (p ++ r)) (gz (p ++ r)).length
  | [], p, m, hi, _, _, hl => by
    rw [List.append_nil] at hl ⊢
    have hm := (hi.full h7).1 hl
    subst hm
    rw [(TV_full ds hi).2]
    exact Int.le_refl _
  | k :: r, p, m, hi, hnd, hr, hl => by
    have hk : k < n := hr k (by simp)
    have hnp : k ∉ p := fun h => by
      rw [List.nodup_append] at hnd
      exact hnd.2.2 k h k (by simp) rfl
    have hb : m.testBit k = true := by rw [hi.mask k hk]; simp [hnp]
    have hm : m ≠ 0 := fun e => by subst e; simp at hb
    obtain ⟨q, hq⟩ := found (tk ds) (lp p) hm hi.lt
    have h1 := (fm_is hq).2.2.1 k hk hb
    have e : (p ++ [k]) ++ r = p ++ k :: r := by simp
    have ih := TV_le ds h7 r (p ++ [k]) (m - 2 ^ k) (hi.next h7 hk hb) (by rw [e]; exact hnd) (fun x hx => hr x (by simp [hx])) (by rw [e]; exact hl)
    rw [e, TV_next ds hi] at ih
    rw [TV_best ds hm hq]
    omega
/-- The way that is told has the ticks that are told. -/
theorem TL_is (ds : List (Int × Int)) {n : Nat} (h7 : n ≤ 7) : ∀ (f m : Nat) (p : List Nat), pc m = f → Inv n p m → p.Nodup → ∃ q, Inv n q 0 ∧ q.Nodup ∧ TL ds n p m = q ∧ TV ds n p m = pim ds (gz q) (gz q).length
  | 0, m, p, hp, hi, hn => by
    have h2 := two_le h7
    have hl := hi.lt
    have hm : m = 0 := (pc_zero m (by omega)).1 hp
    subst hm
    exact ⟨p, hi, hn, (TV_full ds hi).1, (TV_full ds hi).2⟩
  | f + 1, m, p, hp, hi, hn => by
    have h2 := two_le h7
    have hl := hi.lt
    have hm : m ≠ 0 := fun e => by rw [e, show pc 0 = 0 by decide +kernel] at hp; omega
    obtain ⟨k, hk⟩ := found (tk ds) (lp p) hm hi.lt
    obtain ⟨k1, k2, _, _⟩ := fm_is hk
    have hnp : k ∉ p := fun h => by
      have := hi.mask k k1
      rw [k2] at this
      simp [h] at this
    obtain ⟨q, a, b, c, d⟩ := TL_is ds h7 f (m - 2 ^ k) (p ++ [k]) (by have := (clr m (by omega) k (by omega) k2).1; omega) (hi.next h7 k1 k2) (by
      rw [List.nodup_append]
      exact ⟨hn, by simp, fun x hx y hy => by rw [List.mem_singleton] at hy; subst hy; intro e; subst e; exact hnp hx⟩)
    refine ⟨q, a, b, (TL_next ds hm hk).symm.trans c, ?_⟩
    rw [TV_best ds hm hk, ← TV_next ds hi]
    exact d
theorem gz_nodup {q : List Nat} (h : q.Nodup) : (gz q).Nodup := by
  unfold gz
  rw [List.Nodup, List.pairwise_map]
  exact h.imp fun hne e => hne (by omega)
theorem ord_gz {q : List Nat} {n : Nat} (hl : q.length = n) (hr : ∀ x ∈ q, x < n) (hn : q.Nodup) : ordB (gz q) n = true := by
  refine decide_eq_true ⟨by rw [gz_len]; exact hl, fun x hx => ?_, gz_nodup hn⟩
  unfold gz at hx
  rw [List.mem_map] at hx
  obtain ⟨a, ha, rfl⟩ := hx
  have := hr a ha
  omega
/-- What the law compares of the shortest tour. -/
theorem short_ok {ds : List (Int × Int)} (h : db ds = true) : ∃ q : List Nat, SL ds = gz q ∧ q.length = ds.length ∧ (∀ x ∈ q, x < ds.length) ∧ q.getD 0 0 = 0 ∧ TT ds (SL ds) = (SV ds, true) ∧
    ∀ r : List Nat, (0 :: r).Nodup → (∀ x ∈ r, x < ds.length) → r.length + 1 = ds.length → TT ds (gz (0 :: r)) = (pim ds (gz (0 :: r)) (gz (0 :: r)).length, true) ∧ SV ds ≤ pim ds (gz (0 :: r)) (gz (0 :: r)).length := by
  obtain ⟨l1, l7⟩ := db_len h
  have hi := Inv.start l1 l7
  obtain ⟨q, a, b, c, d⟩ := TL_is ds l7 _ _ [0] rfl hi (by simp)
  have hs : SL ds = gz q := by unfold SL; rw [if_pos h, c]
  have hv : SV ds = TV ds ds.length [0] (2 ^ ds.length - 2) := by unfold SV; rw [if_pos h]
  have hl := (a.full l7).2 rfl
  refine ⟨q, hs, hl, a.rng, a.head, ?_, fun r hn hr hl2 => ⟨?_, ?_⟩⟩
  · unfold TT
    rw [hs, if_pos ⟨h, ord_gz hl a.rng b⟩, hv, d]
  · unfold TT
    rw [if_pos ⟨h, ord_gz (by simp [hl2]) (fun x hx => by
      rcases List.mem_cons.1 hx with rfl | hx
      · omega
      · exact hr x hx) hn⟩]
  · rw [hv]
    exact TV_le ds l7 r [0] _ hi hn hr (by simp; omega)

/-- A drawn order grows: the next index is put in at a place. -/
theorem order_in {os : List Nat} {i at_ : Nat} (hl : os.length = i) (hn : os.Nodup) (hr : ∀ x ∈ os, x < i) (ha : at_ ≤ i) :
    (os.take at_ ++ i :: os.drop at_).length = i + 1 ∧ (os.take at_ ++ i :: os.drop at_).Nodup ∧ ∀ x ∈ os.take at_ ++ i :: os.drop at_, x < i + 1 := by
  have hp : (os.take at_ ++ i :: os.drop at_).Perm (i :: os) := by
    refine List.perm_middle.trans ?_
    rw [List.take_append_drop]
  refine ⟨by rw [hp.length_eq, List.length_cons, hl], hp.nodup_iff.2 ?_, fun x hx => ?_⟩
  · rw [List.nodup_cons]
    exact ⟨fun h => by have := hr i h; omega, hn⟩
  · rcases List.mem_cons.1 (hp.mem_iff.1 hx) with rfl | h
    · omega
    · have := hr x h; omega
theorem order_head {os : List Nat} {i at_ : Nat} (hh : os.getD 0 0 = 0) (hl : os.length = i) (ha : (i = 0 ∧ at_ = 0) ∨ 1 ≤ at_) (hi : at_ ≤ i) : (os.take at_ ++ i :: os.drop at_).getD 0 0 = 0 := by
  rcases ha with ⟨rfl, rfl⟩ | ha
  · simp
  · cases os with
    | nil => simp at hl; omega
    | cons a t =>
      obtain ⟨k, rfl⟩ : ∃ k, at_ = k + 1 := ⟨at_ - 1, by omega⟩
      simpa using hh

/-! ## Groups -/
theorem flat_set (k : Nat) : ∀ (G : List (List Nat)) (i : Nat), i < G.length → (G.set i (G.getD i [] ++ [k])).flatten.Perm (k :: G.flatten)
  | [], i, h => absurd h (by simp)
  | g :: G, 0, _ => by
    show ((g ++ [k]) ++ G.flatten).Perm (k :: (g ++ G.flatten))
    rw [List.append_assoc]
    exact List.perm_middle
  | g :: G, i + 1, h => by
    have ih := flat_set k G i (by simpa using h)
    show (g ++ (G.set i (G.getD i [] ++ [k])).flatten).Perm (k :: (g ++ G.flatten))
    exact (ih.append_left g).trans List.perm_middle
theorem grp_perm (bs : List Bm) (ap : Int) : ∀ k, (grp bs ap k).flatten.Perm (List.range k)
  | 0 => by simp [grp]
  | k + 1 => by
    have ih := grp_perm bs ap k
    rw [List.range_succ]
    have h2 : (k :: (grp bs ap k).flatten).Perm (List.range k ++ [k]) := ((ih.cons k).trans (List.perm_append_singleton k _).symm)
    unfold grp stp
    split
    · rename_i h
      exact (flat_set k _ _ h).trans h2
    · rw [List.flatten_append]
      simp only [List.flatten_cons, List.flatten_nil, List.append_nil]
      exact (List.perm_append_singleton k _).trans h2
/-- How often an index comes. -/
def cn (L : List Nat) (a : Nat) : Nat := L.count a
theorem grp_one (bs : List Bm) (ap : Int) {a : Nat} (h : a < bs.length) : cn (grp bs ap bs.length).flatten a = 1 := by
  unfold cn
  rw [(grp_perm bs ap bs.length).count_eq]
  have h1 : 0 < (List.range bs.length).count a := List.count_pos_iff.2 (List.mem_range.2 h)
  have h2 : (List.range bs.length).count a ≤ 1 := List.nodup_iff_count.1 List.nodup_range a
  omega
/-- All of a group are far from those before. -/
def farG (bs : List Bm) (ap : Int) (g : List Nat) : Prop := g.Pairwise fun x y => nearB bs ap x y = false
theorem far_snoc {bs : List Bm} {ap : Int} {g : List Nat} {k : Nat} (h : farG bs ap g) (hf : fitB bs ap g k = true) : farG bs ap (g ++ [k]) := by
  unfold farG
  rw [List.pairwise_append]
  refine ⟨h, by simp, fun x hx y hy => ?_⟩
  rw [List.mem_singleton] at hy
  subst hy
  unfold fitB at hf
  rw [List.all_eq_true] at hf
  simpa using hf x hx
theorem grp_far (bs : List Bm) (ap : Int) : ∀ k, ∀ g ∈ grp bs ap k, farG bs ap g
  | 0, g, h => by simp [grp] at h
  | k + 1, g, h => by
    unfold grp stp at h
    split at h
    · rename_i hi
      rcases List.mem_or_eq_of_mem_set h with h | rfl
      · exact grp_far bs ap k g h
      · have e : (grp bs ap k).getD (ix bs ap (grp bs ap k) k) [] = (grp bs ap k)[ix bs ap (grp bs ap k) k] := by simp [List.getD, hi]
        rw [e]
        refine far_snoc (grp_far bs ap k _ (List.getElem_mem hi)) ?_
        exact List.findIdx_getElem (w := hi)
    · rcases List.mem_append.1 h with h | h
      · exact grp_far bs ap k g h
      · rw [List.mem_singleton] at h
        subst h
        exact List.pairwise_singleton _ _
theorem far_at {bs : List Bm} {ap : Int} {g : List Nat} (h : farG bs ap g) {k i : Nat} (hki : k < i) (hi : i < g.length) :
    ap ≤ df (bg bs g[i]).1 (bg bs g[i]).2.1 (bg bs g[k]).1 (bg bs g[k]).2.1 := by
  have := (List.pairwise_iff_getElem.1 h) k i (by omega) hi hki
  have h2 := of_decide_eq_false this
  unfold df at h2 ⊢
  omega
/-- How often each index has come in the groups ahead of g and the first i of g. -/
def sn (G : List (List Nat)) (g i : Nat) : List Nat := (G.take g).flatten ++ (G.getD g []).take i
theorem sn_zero (G : List (List Nat)) : sn G 0 0 = [] := by simp [sn]
theorem sn_next (G : List (List Nat)) {g i : Nat} (hi : i < (G.getD g []).length) : sn G g (i + 1) = sn G g i ++ [(G.getD g [])[i]] := by
  unfold sn
  rw [List.take_succ_eq_append_getElem hi, List.append_assoc]
theorem sn_row (G : List (List Nat)) {g : Nat} (hg : g < G.length) : sn G g (G.getD g []).length = sn G (g + 1) 0 := by
  unfold sn
  rw [List.take_succ_eq_append_getElem hg, List.take_length, List.flatten_append]
  simp [List.getD, hg]
theorem sn_end (G : List (List Nat)) : sn G G.length 0 = G.flatten := by simp [sn]
theorem cn_next (L : List Nat) (x a : Nat) : cn (L ++ [x]) a = cn L a + if a = x then 1 else 0 := by
  unfold cn
  rw [List.count_append, List.count_singleton]
  by_cases h : a = x
  · subst h; simp
  · rw [if_neg h, if_neg (by simpa using fun e => h e.symm)]

/-! ## The nearest -/
theorem nst_le (bs : List Bm) (u v : Int) : ∀ k i, i < k → sdk bs u v (nst bs u v k) ≤ sdk bs u v i
  | 0, i, h => absurd h (by omega)
  | k + 1, i, h => by
    unfold nst
    split
    · by_cases e : i = k
      · subst e; exact Int.le_refl _
      · have := nst_le bs u v k i (by omega); omega
    · by_cases e : i = k
      · subst e; omega
      · exact nst_le bs u v k i (by omega)
theorem sn_cn (G : List (List Nat)) {g i a : Nat} (hg : g < G.length) : cn (sn G g i) a ≤ cn G.flatten a := by
  have e : G.flatten = (G.take g).flatten ++ (G.getD g [] ++ (G.drop (g + 1)).flatten) := by
    have e2 : (G.drop g).flatten = G[g] ++ (G.drop (g + 1)).flatten := by rw [List.drop_eq_getElem_cons hg, List.flatten_cons]
    rw [show G.getD g [] = G[g] by simp [List.getD, hg], ← e2, ← List.flatten_append, List.take_append_drop]
  unfold cn sn
  rw [e, List.count_append, List.count_append, List.count_append]
  have := (List.take_sublist i (G.getD g [])).count_le a
  omega

end Go.Proofs.Ytmemclcoegmjjaa.toursN
