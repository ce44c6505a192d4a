/- A shortest tour has as many ticks as told and no drawn one has fewer; groups have all beams once, far from one another; no beam is nearer than the nearest one: the law answers true at every input. No condition. -/
import Derived.Test.YtmemclcoegmjjaaRows
import Derived.Test.YtmemclcoegmjjaaSlc
import Derived.Test.YtmemclcoegmjjaaSmall
import Derived.Test.YtmemclcoegmjjaaOpens
import Derived.Test.YtmemclcoegmjjaaListI
import Derived.Test.YtmemclcoegmjjaaPlaces
import Derived.Test.YtmemclcoegmjjaaPlaceSet
import Derived.Test.YtmemclcoegmjjaaListP
import Derived.Test.YtmemclcoegmjjaaR8
import Derived.Test.YtmemclcoegmjjaaSrc
import Derived.Test.YtmemclcoegmjjaaDrawOk
import Derived.Test.YtmemclcoegmjjaaBeams
import Derived.Test.YtmemclcoegmjjaaPlanNum
import Derived.Test.YtmemclcoegmjjaaDrawB
import Derived.Test.YtmemclcoegmjjaaB10L
import Derived.Test.YtmemclcoegmjjaaSwT
import Derived.Test.YtmemclcoegmjjaaBeamsOk
import Derived.Test.YtmemclcoegmjjaaListBeam
import Derived.Test.YtmemclcoegmjjaaListSlot
import Derived.Test.YtmemclcoegmjjaaListDir
import Derived.Test.YtmemclcoegmjjaaDirsOk
import Derived.Test.YtmemclcoegmjjaaSortO
import Derived.Test.YtmemclcoegmjjaaSeqV
import Derived.Test.YtmemclcoegmjjaaOrdC
import Derived.Test.YtmemclcoegmjjaaTourC
import Derived.Test.YtmemclcoegmjjaaTourS
import Derived.Test.YtmemclcoegmjjaaTourQ
import Derived.Test.YtmemclcoegmjjaaTourN
import Derived.Test.YtmemclcoegmjjaaTourM
import Derived.Test.YtmemclcoegmjjaaTourB
import Derived.Test.YtmemclcoegmjjaaTourL
import Derived.Test.YtmemclcoegmjjaaTourMM
import Derived.Test.YtmemclcoegmjjaaTourR
import Derived.Test.YtmemclcoegmjjaaShortT
import Derived.Test.YtmemclcoegmjjaaPlanDue
import Derived.Test.YtmemclcoegmjjaaNestI
import Derived.Test.YtmemclcoegmjjaaFarF
import Derived.Test.YtmemclcoegmjjaaNestG
import Derived.Test.YtmemclcoegmjjaaFarC
import Derived.Test.YtmemclcoegmjjaaNearC
import Derived.Test.YtmemclcoegmjjaaToursN
import Derived.WalkKit
import Derived.ProofKit
import Derived.OpenShut
import Derived.ShutString
import Derived.ChangeOld
import Derived.Below
import Derived.Lib.Hide
import Derived.BigQuiet
import Derived.Deep.QuietTactic
import Derived.WalkLawsBesides
import Derived.Outline
import Derived.Deep.LoopGhost
import Derived.Deep.QuietTactic
import Derived.BigQuiet
import Derived.Deep.RegionHeld3
import Derived.Deep.RegionWith
namespace Go.Proofs.Ytmemclcoegmjjaa.toursLaw
open Go.ChangeShapes Go.WideShapes Go.ChangeAt Go.RowKit
open Go.ChangeMaps (open_string shut_string)
set_option linter.unusedVariables false
open Go Go.RowKit
open Go.Proofs.Ytmemclcoegmjjaa.slc Go.Proofs.Ytmemclcoegmjjaa.small Go.Proofs.Ytmemclcoegmjjaa.opens Go.Proofs.Ytmemclcoegmjjaa.listI Go.Proofs.Ytmemclcoegmjjaa.r8 Go.Proofs.Ytmemclcoegmjjaa.src Go.Proofs.Ytmemclcoegmjjaa.beams Go.Proofs.Ytmemclcoegmjjaa.planNum Go.Proofs.Ytmemclcoegmjjaa.drawB Go.Proofs.Ytmemclcoegmjjaa.b10L Go.Proofs.Ytmemclcoegmjjaa.listBeam Go.Proofs.Ytmemclcoegmjjaa.dirsOk Go.Proofs.Ytmemclcoegmjjaa.ordC Go.Proofs.Ytmemclcoegmjjaa.tourC Go.Proofs.Ytmemclcoegmjjaa.tourB Go.Proofs.Ytmemclcoegmjjaa.shortT Go.Proofs.Ytmemclcoegmjjaa.farF Go.Proofs.Ytmemclcoegmjjaa.nestG Go.Proofs.Ytmemclcoegmjjaa.farC Go.Proofs.Ytmemclcoegmjjaa.nearC Go.Proofs.Ytmemclcoegmjjaa.toursN

/-- The directions of beams. -/
def dl (bs : List Bm) : List (Int × Int) := bs.map fun x => (x.1, x.2.1)
theorem dl_len (bs : List Bm) : (dl bs).length = bs.length := by simp [dl]
theorem dl_take {bs : List Bm} {i : Nat} (h : i < bs.length) : (dl bs).take (i + 1) = (dl bs).take i ++ [((bg bs i).1, (bg bs i).2.1)] := by
  rw [List.take_succ_eq_append_getElem (by rw [dl_len]; exact h)]
  simp [dl, bg, List.getD, h]
theorem infoD : (Try.prog.info? 27).map (fun i => (i.zero, i.size, i.bytes)) = some (some (.agg #[.int .i64 0, .int .i64 0]), 2, 16) := by kernel_rfl
theorem dl_ok {bs : List Bm} (h : ab bs = true) : db (dl bs) = true := by
  obtain ⟨h1, h7⟩ := ab_len h
  unfold db
  rw [dl_len, decide_eq_true ⟨h1, h7⟩, Bool.true_and, List.all_eq_true]
  intro x hx
  unfold dl at hx
  rw [List.mem_map] at hx
  obtain ⟨b, hb, rfl⟩ := hx
  obtain ⟨k, hk, rfl⟩ := List.getElem_of_mem hb
  have h2 := ab_at h hk
  rw [show bg bs k = bs[k] by simp [bg, List.getD, hk]] at h2
  exact (bb_yes (u := bs[k].1) (v := bs[k].2.1) (d := bs[k].2.2.1) (s := bs[k].2.2.2) h2).1
/-- How often each index has come. -/
def sv (L : List Nat) (n : Nat) : List Int := (List.range n).map fun j => ((cn L j : Nat) : Int)
theorem sv_len (L : List Nat) (n : Nat) : (sv L n).length = n := by simp [sv]
theorem sv_zero (n : Nat) : ints (sv [] n) = List.replicate n (.int .i64 0) := by
  unfold sv ints cn
  rw [List.map_map]
  apply List.ext_getElem
  · simp
  · intro i h1 h2
    simp
theorem sv_at (L : List Nat) {n j : Nat} (h : j < n) : (ints (sv L n))[j]? = some (.int .i64 (cn L j : Nat)) := by
  simp [ints, sv, h]
theorem sv_next (L : List Nat) {n a : Nat} (h : a < n) : (ints (sv L n)).set a (.int .i64 ((cn L a : Nat) + 1)) = ints (sv (L ++ [a]) n) := by
  apply List.ext_getElem?
  intro i
  rw [List.getElem?_set]
  by_cases hi : i < n
  · rw [sv_at _ hi]
    by_cases e : a = i
    · subst e
      rw [if_pos rfl, if_pos (by rw [ints_len, sv_len]; exact h), sv_at _ h, cn_next, if_pos rfl]
      simp
    · rw [if_neg e, sv_at _ hi, cn_next, if_neg (fun h2 => e h2.symm)]
      simp
  · rw [List.getElem?_eq_none (by rw [ints_len, sv_len]; omega)]
    by_cases e : a = i
    · omega
    · rw [if_neg e, List.getElem?_eq_none (by rw [ints_len, sv_len]; omega)]
/-- What the law draws as an order. -/
structure Od (os : List Nat) (i : Nat) : Prop where
  len : os.length = i
  nd : os.Nodup
  lt : ∀ x ∈ os, x < i
  hd : os.getD 0 0 = 0
theorem Od.zero : Od [] 0 := ⟨rfl, by simp, by simp, rfl⟩
theorem Od.next {os : List Nat} {i a : Nat} (h : Od os i) (ha : (i = 0 ∧ a = 0) ∨ 1 ≤ a) (hi : a ≤ i) : Od (os.take a ++ i :: os.drop a) (i + 1) := by
  obtain ⟨h1, h2, h3⟩ := order_in h.len h.nd h.lt hi
  exact ⟨h1, h2, h3, order_head h.hd h.len ha hi⟩
theorem b10_any (A : Option Addr) (c B : Nat) (z : List Int) (k : Nat) (n : Nat) (w : World) (hk : k ≤ 1000) (hm : z.length ≤ 1048576) (hn : 1 ≤ n) (hn2 : n ≤ 1000000) (hz : Byt z) (hr : Rd w B A z.length (bt z)) :
    Calls Try.prog 29 #[.slice A z.length c, .int .i64 k, .int .i64 n] w fun e w' => ∃ a : Nat, a < n ∧ e = .returned (.int .i64 a) ∧ w = w' := by
  by_cases h : n = 1
  · subst h
    refine (b10_one A z.length c k w).mono ?_
    rintro e w' ⟨rfl, rfl⟩
    exact ⟨0, by omega, rfl, rfl⟩
  · refine (b10_at A c B z k n w hk hm (by omega) (by omega) hz hr).mono ?_
    rintro e w' ⟨rfl, rfl⟩
    obtain ⟨h1, h2⟩ := b10_bd (z := z) k (n : Int) (by omega)
    exact ⟨(b10 z k n).toNat, by omega, by rw [show (((b10 z k n).toNat : Nat) : Int) = b10 z k n by omega], rfl⟩
theorem own_drop {w : World} {base g e : Nat} {T : TypeId} {xs : List Value} {n a : Nat} (h : w.ownsRow base T 1 (.slice (some ⟨g, 0, none⟩) n e) n xs) (ha : a ≤ n) : ∀ j u, (xs.drop a)[j]? = some u → w.cell? ((⟨g, a, none⟩ : Addr).add j) = some u := by
  intro j u hu
  rw [List.getElem?_drop] at hu
  have := h.cells (g := g) rfl (a + j) u hu
  rw [slc.add_plain] at this ⊢
  rwa [Nat.zero_add] at this
theorem own_take {w : World} {base g e : Nat} {T : TypeId} {xs : List Value} {n a : Nat} (h : w.ownsRow base T 1 (.slice (some ⟨g, 0, none⟩) n e) n xs) : ∀ j u, (xs.take a)[j]? = some u → w.cell? ((⟨g, 0, none⟩ : Addr).add j) = some u := by
  intro j u hu
  have hj : xs[j]? = some u := by
    rw [List.getElem?_take] at hu
    split at hu
    · exact hu
    · cases hu
  exact h.cells (g := g) rfl j u hj
theorem ints_cells {xs : List Int} {a b : Nat} : ∀ u ∈ ((ints xs).drop a).take b, u.oneCell' = true := fun u hu => by
  have := List.mem_of_mem_drop (List.mem_of_mem_take hu)
  obtain ⟨x, _, rfl⟩ := List.mem_map.1 this
  rfl
/-- An append to a row of the call's own, as an equation. -/
theorem app_g {base : Nat} {W : World} {v : Value} {n : Nat} {xs : List Int} (news : List Int) (ad : Addr) (m cc : Nat) (i0 : TypeInfo) (hi0 : Try.prog.info? 2 = some i0) (hz0 : i0.zero = some (.int .i64 0)) (hz1 : i0.size = 1) (hz2 : i0.bytes = 8)
    (hown : W.ownsRow base 2 1 v n (ints xs)) (hl : news.length = m) (hc : ∀ j u, (ints news)[j]? = some u → W.cell? (ad.add j) = some u) (hn : n + m < 100000) (hb : base ≤ W.heap.size) :
    ∃ A6 c6 w6, (appS #[59, 59] 59 #[v, .slice (some ad) m cc]).run Try.prog W = .ok (.slice A6 (n + m) c6) w6 ∧
      w6.ownsRow base 2 1 (.slice A6 (n + m) c6) (n + m) (ints (xs ++ news)) ∧ W.grownBy w6 v.ownBlock := by
  obtain ⟨v6, w6, hrun, r1, r2, _⟩ := run_append_own (P := Try.prog) W base 59 59 2 i0 (.int .i64 0) 1 8 Try.underlying59 hi0 hz0 hz1 hz2 rfl (by decide) _ _ _ hown ad m cc (ints news) (by rw [ints_len, hl, Nat.mul_one]) hc (by intro u hu; obtain ⟨x, _, rfl⟩ := List.mem_map.1 hu; rfl) (by unfold maxLen; omega) (by omega) hb
  obtain ⟨A6, c6, rfl⟩ := nestG.row_slice r1
  rw [show ints xs ++ ints news = ints (xs ++ news) by simp [ints]] at r1
  exact ⟨A6, c6, w6, hrun, r1, r2⟩
/-- A direction more. -/
theorem app_dir {base : Nat} {W : World} {A : Option Addr} {cap n : Nat} {ps : List (Int × Int)} (u v : Int) (j0 : TypeInfo) (hj0 : Try.prog.info? 27 = some j0) (yz0 : j0.zero = some (.agg #[.int .i64 0, .int .i64 0])) (yz1 : j0.size = 2) (yz2 : j0.bytes = 16)
    (hown : W.ownsRow base 27 2 (.slice A n cap) n (lst (pcell ps) (n * 2))) (hn : n < 1000) (hb : base ≤ W.heap.size) :
    ∃ A6 c6 w6, (appS #[74, 74] 74 #[.slice A n cap, .slice (some ⟨W.heap.size, 0, none⟩) 1 1]).run Try.prog (W.alloc (.cells #[.int .i64 u, .int .i64 v] 27)) = .ok (.slice A6 (n + 1) c6) w6 ∧
      w6.ownsRow base 27 2 (.slice A6 (n + 1) c6) (n + 1) (lst (pcell ps) (n * 2) ++ [.int .i64 u, .int .i64 v]) ∧ (W.alloc (.cells #[.int .i64 u, .int .i64 v] 27)).grownBy w6 (A.map Addr.block) := by
  obtain ⟨v6, w6, hrun, r1, r2, _⟩ := run_append_own (P := Try.prog) (W.alloc (.cells #[.int .i64 u, .int .i64 v] 27)) base 74 74 27 j0 (.agg #[.int .i64 0, .int .i64 0]) 2 16 Try.underlying74 hj0 yz0 yz1 yz2 rfl (by decide) _ _ _ (hown.alloc _) ⟨W.heap.size, 0, none⟩ 1 1 [.int .i64 u, .int .i64 v] rfl (World.news_of_block (cs := #[.int .i64 u, .int .i64 v]) (t := 27) (fr := (0, 0)) (heap_alloc_new W _)) (by intro x hx; simp at hx; rcases hx with rfl | rfl <;> rfl) (by unfold maxLen; omega) (by omega) (by simp; omega)
  obtain ⟨A6, c6, rfl⟩ := nestG.row_slice r1
  rw [own_blk] at r2
  exact ⟨A6, c6, w6, hrun, r1, r2⟩
/-- The next index comes into a drawn order: three appends. -/
theorem order_step {w2 : World} {M k a g e : Nat} {os : List Nat} (ad2 : Addr) (cc2 kd : Nat) (hkd : k - a = kd) (i0 : TypeInfo) (hi0 : Try.prog.info? 2 = some i0) (hz0 : i0.zero = some (.int .i64 0)) (hz1 : i0.size = 1) (hz2 : i0.bytes = 8)
    (hod : Od os k) (ha : a ≤ k) (hlow : (k = 0 ∧ a = 0) ∨ 1 ≤ a) (hk : k < 1000) (hrow : w2.ownsRow M 2 1 (.slice (some ⟨g, 0, none⟩) k e) k (ints (gz os))) (hpos : a < k → ad2 = ⟨g, a, none⟩) :
    ∃ (m2 g3 b6 : Nat) (w4 : World) (C6 : Option Addr) (c7 : Nat) (w6 : World) (g9 d7 : Nat) (w8 : World),
      (appS #[59, 59] 59 #[.slice (some ⟨w2.heap.size, 0, none⟩) 1 1, .slice (some ad2) kd cc2]).run Try.prog (w2.alloc (.cells #[.int .i64 (k : Int)] 2)) = .ok (.slice (some ⟨g3, 0, none⟩) m2 b6) w4 ∧
      (appS #[59, 59] 59 #[.slice (some ⟨w4.heap.size, 0, none⟩) 0 0, .slice (some ⟨g, 0, none⟩) a e]).run Try.prog (w4.alloc (.cells #[] 2)) = .ok (.slice C6 a c7) w6 ∧
      (appS #[59, 59] 59 #[.slice C6 a c7, .slice (some ⟨g3, 0, none⟩) m2 b6]).run Try.prog w6 = .ok (.slice (some ⟨g9, 0, none⟩) (k + 1) d7) w8 ∧
      Od (os.take a ++ k :: os.drop a) (k + 1) ∧ w8.ownsRow w2.heap.size 2 1 (.slice (some ⟨g9, 0, none⟩) (k + 1) d7) (k + 1) (ints (gz (os.take a ++ k :: os.drop a))) ∧ k + 1 ≤ d7 ∧ d7 ≤ maxLen ∧ w2.grownBy w8 none := by
  have hgb := own_base hrow g rfl
  have hgl : (gz os).length = k := by rw [gz_len]; exact hod.len
  have ga3 := World.grownBy_alloc w2 (.cells #[.int .i64 (k : Int)] 2) none
  obtain ⟨B6, b6, w4, hrun2, x1, x2⟩ := app_g (base := w2.heap.size) (W := w2.alloc (.cells #[.int .i64 (k : Int)] 2)) (xs := [(k : Int)]) ((gz os).drop a) ad2 kd cc2 i0 hi0 hz0 hz1 hz2 (World.ownsRow_lit (base := w2.heap.size) (e := 2) (size := 1) w2 #[.int .i64 (k : Int)] 1 (Nat.le_refl _) (by decide) rfl) (by rw [List.length_drop, hgl]; exact hkd) (by
    rcases Nat.lt_or_ge a k with h | h
    · rw [hpos h, show ints ((gz os).drop a) = (ints (gz os)).drop a by simp [ints]]
      exact own_drop (own_kept0 hrow ga3) ha
    · rw [List.drop_eq_nil_of_le (by rw [hgl]; exact h)]
      intro j u hu
      simp [ints] at hu) (by omega) (by simp)
  obtain ⟨m2, hm2⟩ : ∃ m2, 1 + kd = m2 := ⟨_, rfl⟩
  rw [hm2] at hrun2 x1
  obtain ⟨g3, cap3, e3, _, _⟩ := x1.form (by omega)
  obtain ⟨rfl, rfl⟩ : B6 = some ⟨g3, 0, none⟩ ∧ b6 = cap3 := by injection e3 with p1 p2 p3; exact ⟨p1, p3⟩
  have or4 := World.ownsRow.kept (own_kept0 hrow ga3) x2 (.inr (fun e => by simp [Value.ownBlock] at e; omega))
  have hw42 : w2.heap.size < w4.heap.size := by have := x2.size; simp at this; omega
  have ga5 := World.grownBy_alloc w4 (.cells #[] 2) none
  obtain ⟨C6, c7, w6, hrun3, u1, u2⟩ := app_g (base := w4.heap.size) (W := w4.alloc (.cells #[] 2)) (xs := []) ((gz os).take a) ⟨g, 0, none⟩ a e i0 hi0 hz0 hz1 hz2 (World.ownsRow_lit (base := w4.heap.size) (e := 2) (size := 1) w4 #[] 0 (Nat.le_refl _) (Nat.zero_le _) rfl) (by rw [List.length_take, hgl]; omega) (by rw [show ints ((gz os).take a) = (ints (gz os)).take a by simp [ints]]; exact own_take (own_kept0 or4 ga5)) (by omega) (by simp)
  rw [Nat.zero_add] at hrun3 u1
  have x6 := World.ownsRow.kept (own_kept0 x1 ga5) u2 (.inr (fun e => by have := own_base x1 g3 rfl; simp [Value.ownBlock] at e; omega))
  obtain ⟨D6, d7, w8, hrun4, y1, y2⟩ := app_g (base := w4.heap.size) (W := w6) ([(k : Int)] ++ (gz os).drop a) ⟨g3, 0, none⟩ m2 b6 i0 hi0 hz0 hz1 hz2 u1 (by rw [List.length_append, List.length_singleton, List.length_drop, hgl, hkd]; exact hm2) (fun j u hu => x6.cells (g := g3) rfl j u hu) (by omega) (by have := u2.size; simp at this; omega)
  rw [show a + m2 = k + 1 by omega] at hrun4 y1
  rw [show [] ++ (gz os).take a ++ ([(k : Int)] ++ (gz os).drop a) = gz (os.take a ++ k :: os.drop a) by simp [gz]] at y1
  have gA := gb_new ((gb_new ga3 x2 (fun r e => by simp [Value.ownBlock] at e; omega)).trans ga5) u2 (fun r e => by simp [Value.ownBlock] at e; omega)
  have gB := gb_new gA y2 (fun r e => by have := (u1.lt r e).1; omega)
  obtain ⟨g9, cap9, e9, _, _⟩ := y1.form (by omega)
  obtain ⟨rfl, rfl⟩ : D6 = some ⟨g9, 0, none⟩ ∧ d7 = cap9 := by injection e9 with p1 p2 p3; exact ⟨p1, p3⟩
  have hcap := own_le y1
  exact ⟨m2, g3, b6, w4, C6, c7, w6, g9, d7, w8, hrun2, hrun3, hrun4, hod.next hlow ha, own_mono y1 (Nat.le_of_lt hw42), hcap.1, hcap.2, gB⟩
section
attribute [local go_sem ↓] app_stop
attribute [local go_sem] swT.max4
set_option maxHeartbeats 8000000 in
set_option maxRecDepth 100000 in
theorem law (A A' : Option Addr) (c d : Nat) (z y : List Int) (w : World) (hz : Byt z) (hzy : Byt y) (hm : z.length ≤ 9223372036854775807) (hy : y.length ≤ 9223372036854775807) (hr : Rd w w.heap.size A z.length (bt z)) (hry : Rd w w.heap.size A' y.length (bt y)) :
    Calls Try.prog 5 #[.slice A z.length c, .slice A' y.length d] w fun e w' => e = .returned (.bool true) ∧ Below w.heap.size w w' := by
  by_cases hl : z.length ≤ 1048576 ∧ y.length ≤ 1048576
  · have HR := Lib.hid (fun (k : Nat) (n : Int) (w2 : World) (g : w.grownBy w2 none) (hk : k ≤ 1000) (h2 : 2 ≤ n) (h3 : n ≤ 1000000) => b10_at A' d w2.heap.size y k n w2 hk hl.2 h2 h3 hzy ((hry.kept0 g (Nat.le_refl _)).mono g.size))
    have HPL := Lib.hid (beams_b10 A c z w hl.1 hz hr)
    have HRY := Lib.hid (fun (w2 : World) (g : w.grownBy w2 none) => (hry.kept0 g (Nat.le_refl _)).mono g.size)
    have HDI := Lib.hid (fun (w2 : World) (g : w.grownBy w2 none) => dir_b10 A' d y w2 hl.2 hzy ((hry.kept0 g (Nat.le_refl _)).mono g.size))
    obtain ⟨i0, hi0, hz0, hz1, hz2⟩ := info_parts tourQ.infoI
    obtain ⟨j0, hj0, yz0, yz1, yz2⟩ := info_parts infoD
    clear hr hry
    go_enter Try.func5, Try.ntmps5
    go_wp2_with fail
    refine (long_no _ _ _ _ _ _ _ hl.1 hl.2).mono ?_
    rintro e w' ⟨rfl, rfl⟩
    go_wp2_with fail
    refine HPL.out.mono ?_
    rintro e w1 ⟨bs, A1, c1, hsm, h1, h4, rfl, ho1, g1⟩
    have hab := smb_ab hsm h1 h4
    have R1 := Lib.hid (Rd.of_lst ho1 rfl)
    have HG1 := Lib.hid g1
    have HAB := Lib.hid hab
    have ga := World.grownBy_alloc w1 (.cells #[] 27) none
    have gb := World.grownBy_alloc (w1.alloc (.cells #[] 27)) (.cells #[] 2) none
    have od := World.ownsRow_lit (base := w1.heap.size) (e := 27) (size := 2) w1 #[] 0 (Nat.le_refl _) (Nat.zero_le _) rfl
    have oo := World.ownsRow_lit (base := w1.heap.size + 1) (e := 2) (size := 1) (w1.alloc (.cells #[] 27)) #[] 0 (by simp) (Nat.zero_le _) rfl
    rw [show (w1.alloc (.cells #[] 27)).heap.size = w1.heap.size + 1 by simp] at oo
    have HS0 := Lib.hid (And.intro (own_kept0 od gb) (And.intro oo (ga.trans gb)))
    clear ho1 g1 hab ga gb od oo HPL hsm
    go_wp2_with fail
    go_loopw [7, 8, 9] (fun v q i wr => ∃ (k M : Nat) (os : List Nat), k ≤ bs.length ∧ w1.heap.size ≤ M ∧ i = .int .i64 k ∧ Od os k ∧
      (∃ O e, v = .slice O k e ∧ (∀ b, O.map Addr.block = some b → b < M) ∧ wr.ownsRow w1.heap.size 27 2 (.slice O k e) k (lst (pcell ((dl bs).take k)) (k * 2))) ∧
      (∃ g e, q = .slice (some ⟨g, 0, none⟩) k e ∧ k ≤ e ∧ e ≤ maxLen ∧ wr.ownsRow M 2 1 (.slice (some ⟨g, 0, none⟩) k e) k (ints (gz os))) ∧ w1.grownBy wr none) (fun _ _ i _ => bs.length - (intOf i).toNat)
    case atStart => exact ⟨0, w1.heap.size + 1, [], Nat.zero_le _, Nat.le_succ _, rfl, Od.zero, ⟨_, _, rfl, fun b e => by simp at e; omega, HS0.out.1⟩, ⟨_, _, rfl, Nat.le_refl _, Nat.zero_le _, HS0.out.2.1⟩, HS0.out.2.2⟩
    case round =>
      obtain ⟨k, M, os, hkn, hM, rfl, hod, ⟨O, oe, rfl, hOM, hod1⟩, ⟨g, e, rfl, he1, he2, hord⟩, hg⟩ := hrel
      by_cases hlt : k < bs.length
      · obtain ⟨ad, u, v, dd, ss, rfl, hadB, hbg, hc0, hc1, hc2, hc3⟩ := Rd.four (R1.out.kept0 hg (Nat.le_refl _)) hlt
        have hu : (bg bs k).1 = u := by unfold bg; rw [hbg]
        have hv : (bg bs k).2.1 = v := by unfold bg; rw [hbg]
        have hdn := dl_take hlt
        rw [hu, hv] at hdn
        have hps := listDir.pcell_snoc ((dl bs).take k) u v
        rw [← hdn, List.length_take, List.length_take, dl_len, Nat.min_eq_left (by omega), Nat.min_eq_left (by omega)] at hps
        have HPS := Lib.hid hps
        have HOD := Lib.hid hod
        have HOR := Lib.hid hord
        have HG := Lib.hid hg
        have k0 : (0 : Int) ≤ (k : Int) := by omega
        have k1 : (k : Int) < (bs.length : Int) := by omega
        have hsz := hg.size
        clear hdn hps hbg hu hv hod hord hg hc2 hc3
        obtain ⟨A6, c6, w2, hrun, z1, z2⟩ := app_dir u v j0 hj0 yz0 yz1 yz2 hod1 (by omega) hsz
        have ga := World.grownBy_alloc wr (.cells #[.int .i64 u, .int .i64 v] 27) none
        have or2 := World.ownsRow.kept (own_kept0 HOR.out ga) z2 (.inr (fun e => by have := hOM g (by rw [← e]; rfl); have := own_base HOR.out g rfl; omega))
        have G2 := gb_new (HG.out.trans ga) z2 (fun x e => (own_base hod1 x e).1)
        have HZ := Lib.hid (And.intro z1 (And.intro or2 G2))
        clear z1 z2 ga or2 G2 hod1
        by_cases hk0 : 0 < k
        · have hk0' : (0 : Int) < (k : Int) := by omega
          have HB := Lib.hid (fun w2 g => b10_any A' d w2.heap.size y k k w2 (by omega) hl.2 hk0 (by omega) hzy (HRY.out w2 g))
          go_wp2_with fail
          refine (HB.out w2 (HG1.out.trans HZ.out.2.2)).mono ?_
          rintro e w' ⟨a, hak, rfl, rfl⟩
          obtain ⟨q, hq⟩ : ∃ q, a + 1 = q := ⟨_, rfl⟩
          have ha1 : IntKind.i64.wrap (1 + (a : Int)) = (q : Int) := by rw [IntKind.wrap_i64]; omega
          have q1 : 1 ≤ q := by omega
          have q2 : q ≤ k := by omega
          have q3 : (q : Int) ≤ (k : Int) := by omega
          have q4 : (0 : Int) ≤ (q : Int) := by omega
          clear hq hak
          clear hrun
          by_cases he : e = q
          · obtain rfl : k = q := by omega
            subst he
            obtain ⟨m2, g3, b6, w4, C6, c7, w6, g9, d7, w8, hrun2, hrun3, hrun4, hnx, y1, h91, h92, g8⟩ := order_step (a := e) ⟨g, 0, none⟩ 0 0 (by omega) i0 hi0 hz0 hz1 hz2 HOD.out (by omega) (.inr q1) (by omega) HZ.out.2.1 (fun h => absurd h (by omega))
            have HF := Lib.hid (And.intro hnx (And.intro y1 (And.intro h91 (And.intro h92 g8))))
            clear hnx y1 h91 h92 g8
            go_wp2_with fail
            refine ⟨?_, by simp [intOf]; omega⟩
            obtain ⟨hnx, y1, h91, h92, g8⟩ := HF.out
            obtain ⟨z1, or2, G2⟩ := HZ.out
            rw [← HPS.out] at z1
            exact ⟨e + 1, w2.heap.size, _, by omega, G2.size, by go_num, hnx, ⟨A6, c6, rfl, fun r e => (own_base z1 r e).2, own_kept0 z1 g8⟩, ⟨g9, d7, rfl, h91, h92, y1⟩, G2.trans g8⟩
          · obtain ⟨m2, g3, b6, w4, C6, c7, w6, g9, d7, w8, hrun2, hrun3, hrun4, hnx, y1, h91, h92, g8⟩ := order_step (a := q) ⟨g, q, none⟩ (e - q) (k - q) rfl i0 hi0 hz0 hz1 hz2 HOD.out q2 (.inr q1) (by omega) HZ.out.2.1 (fun _ => rfl)
            have HF := Lib.hid (And.intro hnx (And.intro y1 (And.intro h91 (And.intro h92 g8))))
            clear hnx y1 h91 h92 g8
            go_wp2_with fail
            refine ⟨?_, by simp [intOf]; omega⟩
            obtain ⟨hnx, y1, h91, h92, g8⟩ := HF.out
            obtain ⟨z1, or2, G2⟩ := HZ.out
            rw [← HPS.out] at z1
            exact ⟨k + 1, w2.heap.size, _, by omega, G2.size, by go_num, hnx, ⟨A6, c6, rfl, fun r e => (own_base z1 r e).2, own_kept0 z1 g8⟩, ⟨g9, d7, rfl, h91, h92, y1⟩, G2.trans g8⟩
        · obtain rfl : k = 0 := by omega
          have e0 : ad.add (0 * 4) = ad := by unfold Addr.add; split <;> simp_all
          rw [e0] at hc0 hc1
          have hpos : 0 < bs.length := h1
          obtain ⟨m2, g3, b6, w4, C6, c7, w6, g9, d7, w8, hrun2, hrun3, hrun4, hnx, y1, h91, h92, g8⟩ := order_step (k := 0) (a := 0) ⟨g, 0, none⟩ e 0 rfl i0 hi0 hz0 hz1 hz2 HOD.out (Nat.le_refl _) (.inl ⟨rfl, rfl⟩) (by omega) HZ.out.2.1 (fun h => absurd h (by omega))
          rw [show ((0 : Nat) : Int) = 0 from rfl] at hrun2
          have HF := Lib.hid (And.intro hnx (And.intro y1 (And.intro h91 (And.intro h92 g8))))
          clear hnx y1 h91 h92 g8
          go_wp2_with fail
          refine ⟨?_, by simp [intOf]; omega⟩
          obtain ⟨hnx, y1, h91, h92, g8⟩ := HF.out
          obtain ⟨z1, or2, G2⟩ := HZ.out
          rw [← HPS.out] at z1
          exact ⟨0 + 1, w2.heap.size, _, by omega, G2.size, by go_num, hnx, ⟨A6, c6, rfl, fun r e => (own_base z1 r e).2, own_kept0 z1 g8⟩, ⟨g9, d7, rfl, h91, h92, y1⟩, G2.trans g8⟩
      · obtain rfl : k = bs.length := by omega
        rw [show (dl bs).take bs.length = dl bs by rw [← dl_len bs, List.take_length]] at hod1
        have hdb := dl_ok HAB.out
        obtain ⟨q, hq1, hq2, hq3, hq4, hq5, hq6⟩ := short_ok hdb
        rw [dl_len] at hq2 hq3
        obtain ⟨r, rfl⟩ : ∃ r, os = 0 :: r := by
          cases os with
          | nil => have := hod.len; simp at this; omega
          | cons x r => have := hod.hd; simp at this; subst this; exact ⟨r, rfl⟩
        have hlr : r.length + 1 = bs.length := by have := hod.len; simpa using this
        obtain ⟨hq7, hq8⟩ := hq6 r hod.nd (fun x hx => by rw [dl_len]; exact hod.lt x (by simp [hx])) (by rw [dl_len]; exact hlr)
        have hgl : (gz (0 :: r)).length = bs.length := by rw [gz_len]; exact hod.len
        have RDD := Lib.hid (show Rd wr wr.heap.size O (bs.length * 2) (pcell (dl bs)) from Rd.of_lst hod1 rfl)
        have ROO := Lib.hid (show Rd wr wr.heap.size (some ⟨g, 0, none⟩) bs.length (fun j => (ints (gz (0 :: r))).getD j undef) from Rd.of_own hord (Nat.mul_one _).symm)
        have RBB := Lib.hid ((R1.out.kept0 hg (Nat.le_refl _)).mono hg.size)
        have HG := Lib.hid (HG1.out.trans hg)
        have HQ := Lib.hid (And.intro hq2 (And.intro hq3 hq4))
        have hsl : (SL (dl bs)).length = bs.length := by rw [hq1, gz_len, hq2]
        have HSH := short_impl O oe wr.heap.size (dl bs) wr (by rw [dl_len]; omega) (by rw [dl_len]; exact RDD.out) (Nat.le_refl _)
        rw [dl_len, hsl, hdb] at HSH
        have HSH := Lib.hid HSH
        have hT1 := fun A' c' (w' : World) (hgw : wr.grownBy w' none) (hr' : Rd w' w'.heap.size A' bs.length (fun j => (ints (SL (dl bs))).getD j undef)) => tour_impl O oe A' c' w'.heap.size (dl bs) (SL (dl bs)) w' (by rw [dl_len]; omega) (by rw [hsl]; omega) (by rw [dl_len]; exact (RDD.out.kept0 hgw (Nat.le_refl _)).mono hgw.size) (by rw [hsl]; exact hr') (Nat.le_refl _)
        rw [dl_len, hsl, hq5] at hT1
        have hT2 := fun (w' : World) (hgw : wr.grownBy w' none) => tour_impl O oe (some ⟨g, 0, none⟩) e w'.heap.size (dl bs) (gz (0 :: r)) w' (by rw [dl_len]; omega) (by rw [hgl]; omega) (by rw [dl_len]; exact (RDD.out.kept0 hgw (Nat.le_refl _)).mono hgw.size) (by rw [hgl]; exact (ROO.out.kept0 hgw (Nat.le_refl _)).mono hgw.size) (Nat.le_refl _)
        rw [dl_len, hgl, hq7] at hT2
        have HT1 := Lib.hid hT1
        have HT2 := Lib.hid hT2
        have HSLE := Lib.hid hq1
        rw [hgl] at hq8
        clear hT1 hT2 hq1 hq2 hq3 hq4 hq5 hq6 hq7 hod hod1 hord hg hdb hOM hsl hlr
        have HB := Lib.hid (HR.out 0 40)
        obtain ⟨p0, p1⟩ := b10_bd (z := y) 0 40 (by decide)
        rw [show ((0 : Nat) : Int) = 0 from rfl] at HB
        have HP8 := Lib.hid hq8
        generalize SV (dl bs) = SVV at *
        generalize hXS : SL (dl bs) = XS at *
        generalize b10 y 0 40 = ap at *
        go_wp2_with fail
        refine HSH.out.mono ?_
        rintro e ws ⟨O2, d2, rfl, ho2, gs⟩
        have RS := Lib.hid (show Rd ws ws.heap.size O2 bs.length (fun j => (ints XS).getD j undef) from Rd.of_own ho2 (Nat.mul_one _).symm)
        have GS1 := Lib.hid gs
        clear ho2 gs HSH
        go_wp2_with fail
        refine (HT1.out _ _ ws GS1.out RS.out).mono ?_
        rintro e w4 ⟨rfl, g4⟩
        have GS4 := Lib.hid (GS1.out.trans g4)
        have RS4 := Lib.hid ((RS.out.kept0 g4 (Nat.le_refl _)).mono g4.size)
        clear g4 RS
        go_wp2_with fail
        refine (HT2.out w4 GS4.out).mono ?_
        rintro e w5 ⟨rfl, g5⟩
        have GS5 := Lib.hid (GS4.out.trans g5)
        have RS5 := Lib.hid ((RS4.out.kept0 g5 (Nat.le_refl _)).mono g5.size)
        clear g5 RS4
        go_wp2_with fail
        refine (HB.out w5 (HG.out.trans GS5.out) (by decide) (by decide) (by decide)).mono ?_
        rintro e w' ⟨rfl, rfl⟩
        have hfar := far_impl A1 c1 w5.heap.size bs ap w5 (by omega) ((RBB.out.kept0 GS5.out (Nat.le_refl _)).mono GS5.out.size) (Nat.le_refl _)
        obtain ⟨hf1, hf2⟩ := fok_yes (ap := ap) HAB.out ⟨p0, by omega⟩
        rw [hf1, hf2] at hfar
        have HFAR := Lib.hid hfar
        clear hfar hf1 hf2
        go_wp2_with fail
        refine HFAR.out.mono ?_
        rintro e w6 ⟨O6, d6, V, rfl, hgs, g6⟩
        have HGS := Lib.hid (gs_rd hgs)
        have GS6 := Lib.hid (GS5.out.trans g6)
        have RS6 := Lib.hid ((RS5.out.kept0 g6 (Nat.le_refl _)).mono g6.size)
        clear hgs g6 RS5 HFAR
        go_wp2_with fail
        refine (HDI.out w6 (HG.out.trans GS6.out)).mono ?_
        rintro e w7 ⟨du, dv, hdu, hdv, rfl, g7⟩
        have ga := World.grownBy_alloc w7 (.cells #[.int .i64 du, .int .i64 dv] 27) none
        have dd7 := Dx.new w7 du dv
        have HGS8 := Lib.hid (And.intro (HGS.out.outer.kept0 (g7.trans ga) (Nat.le_refl _)) (fun i hi => (HGS.out.rows i hi).kept0 (g7.trans ga) (Nat.le_refl _)))
        have hs86 := (g7.trans ga).size
        have GS8 := Lib.hid (GS6.out.trans (g7.trans ga))
        have RS8 := Lib.hid (RS6.out.kept0 (g7.trans ga) (Nat.le_refl _))
        have DD8 := Lib.hid dd7
        have c7 := dd7.facts
        clear ga dd7 g7 HGS RS6
        obtain ⟨x0, x1, _, _⟩ := c7
        go_wp2_with fail
        generalize (w7.alloc (.cells #[.int .i64 du, .int .i64 dv] 27)) = w8 at *
        have hdir : dirB du dv = true := by
          have a : du.natAbs * du.natAbs ≤ 35 * 35 := Nat.mul_le_mul (by omega) (by omega)
          have b : dv.natAbs * dv.natAbs ≤ 35 * 35 := Nat.mul_le_mul (by omega) (by omega)
          have e1 : du * du = ((du.natAbs * du.natAbs : Nat) : Int) := by simp
          have e2 : dv * dv = ((dv.natAbs * dv.natAbs : Nat) : Int) := by simp
          unfold dirB
          refine decide_eq_true ?_
          omega
        have HNR := near_impl A1 c1 w8.heap.size bs du dv w8 (by omega) ((RBB.out.kept0 GS8.out (Nat.le_refl _)).mono GS8.out.size) (Nat.le_refl _)
        rw [nr_yes HAB.out hdir] at HNR
        obtain ⟨N, hN, hN2⟩ : ∃ N, nst bs du dv bs.length = N ∧ N < bs.length := ⟨_, rfl, by rcases nst_lt bs du dv bs.length with h | h <;> omega⟩
        have HLE := Lib.hid (nst_le bs du dv bs.length)
        have HNR := Lib.hid HNR
        rw [hN] at HNR HLE
        clear hN hdir
        refine HNR.out.mono ?_
        rintro e w9 ⟨rfl, g9⟩
        have GS9 := Lib.hid (GS8.out.trans g9)
        have DD9 := Lib.hid (DD8.out.keep g9 (by simp))
        have HGS9 := Lib.hid (And.intro (HGS8.out.1.kept0 g9 (by omega)) (fun i hi => (HGS8.out.2 i hi).kept0 g9 (by omega)))
        obtain ⟨ad2, rfl, _, hx0⟩ := (RS8.out.kept0 g9 (by omega)).at_ (show 0 < bs.length by omega)
        have hq0 : (ints XS).getD 0 undef = .int .i64 0 := by
          rw [HSLE.out]
          have h2 := HQ.out.2.2
          cases q with
          | nil => have h3 := HQ.out.1; simp at h3; omega
          | cons x t => simp at h2; subst h2; rfl
        rw [hq0, show ad2.add 0 = ad2 by unfold Addr.add; split <;> simp_all] at hx0
        have hpim : ¬ pim (dl bs) (gz (0 :: r)) bs.length < SVV := by have := HP8.out; omega
        have hn0 : 0 < bs.length := h1
        have hN0 : ¬ (N : Int) < 0 := by omega
        have hN1 : ¬ (bs.length : Int) ≤ (N : Int) := by omega
        have hb4 : bs.length ≤ 100000 := by omega
        clear hq0 hq8 HSLE HQ HP8
        go_wp2_with (at_make; refine wpList_make_full _ rfl _ _ _ rfl w9.heap.size 2 i0 (.int .i64 0) 1 Try.underlying59 hi0 hz0 hz1 _ _ _ _ bs.length rfl rfl rfl rfl (by rw [hz2]; omega) (by unfold maxLen; omega) (Nat.le_refl _) ?_; intro wa hown3 hg3)
        rw [Nat.mul_one] at hown3
        replace hown3 : wa.ownsRow w9.heap.size 2 1 (.slice (some ⟨w9.heap.size, 0, none⟩) bs.length bs.length) bs.length (ints (sv [] bs.length)) := by
          rw [sv_zero]
          exact (toList_madeCells_one (.int .i64 0) bs.length) ▸ hown3
        have RB9 := Lib.hid (fun (w' : World) (hgw : w9.grownBy w' none) => (RBB.out.kept0 (GS9.out.trans hgw) (Nat.le_refl _)).mono (GS9.out.trans hgw).size)
        have hs69 : w6.heap.size ≤ w9.heap.size := by have := g9.size; omega
        have HGI := Lib.hid (GI.all (bs := bs) (ap := ap) bs.length (Nat.le_refl _))
        have HPM := Lib.hid (fun a (h : a < bs.length) => grp_one bs ap h)
        have HFA := Lib.hid (grp_far bs ap bs.length)
        have HROW := Lib.hid (fun (i : Nat) (hi : i < (grp bs ap bs.length).length) (w' : World) (hgw : w9.grownBy w' none) => (HGS9.out.2 i hi).kept0 hgw hs69)
        have HOUT := Lib.hid (fun (w' : World) (hgw : w9.grownBy w' none) => HGS9.out.1.kept0 hgw hs69)
        have DDK := Lib.hid (fun (w' : World) (hgw : w9.grownBy w' none) => (DD9.out.keep hgw (by simp)).facts)
        have HH3 := Lib.hid (And.intro hown3 hg3)
        have HGW := Lib.hid (HG.out.trans GS9.out)
        have HNL := Lib.hid hN2
        clear hown3 hg3 RBB GS9 g9 HGS9 DD9 hx0 x0 x1 GS8 RS8 DD8 HGS8 GS6 GS5 GS4 GS1 HG RDD ROO HT1 HT2 HB HR HRY HDI HNR
        obtain ⟨wz, rfl⟩ : ∃ wz, wz = wr := ⟨_, rfl⟩
        generalize hG : grp bs ap bs.length = G at *
        have hGl : G.length ≤ bs.length := HGI.out.len
        go_wp2_with fail
        go_loopw [164] (fun i wr => ∃ gi : Nat, gi ≤ G.length ∧ i = .int .i64 gi ∧ wr.ownsRow w9.heap.size 2 1 (.slice (some ⟨w9.heap.size, 0, none⟩) bs.length bs.length) bs.length (ints (sv (sn G gi 0) bs.length)) ∧ w9.grownBy wr none) (fun i _ => G.length - (intOf i).toNat)
        case atStart => exact ⟨0, Nat.zero_le _, rfl, by rw [sn_zero]; exact HH3.out.1, HH3.out.2⟩
        case round =>
          obtain ⟨gi, hgi, rfl, hown, hg⟩ := hrel
          by_cases hlt : gi < G.length
          · obtain ⟨ad4, e4, _, hx4⟩ := (HOUT.out wr hg).at_ hlt
            obtain ⟨hgr, hg1, hg2⟩ := HGI.out.row gi hlt
            have hfar := HFA.out (G.getD gi []) (by rw [show G.getD gi [] = G[gi] by simp [List.getD, hlt]]; exact List.getElem_mem hlt)
            have HRG := Lib.hid (HROW.out gi hlt)
            have HSR := Lib.hid (sn_row G hlt)
            have HSX := Lib.hid (fun (i : Nat) (hi : i < (G.getD gi []).length) => sn_next G hi)
            have HFR := Lib.hid hfar
            have HGR := Lib.hid hgr
            have HO := Lib.hid (And.intro hown hg)
            have g0 : (0 : Int) ≤ (gi : Int) := by omega
            have gl1 : (gi : Int) < (G.length : Int) := by omega
            have HX := Lib.hid (fun (w' : World) (hgw : w9.grownBy w' none) => show w'.cell? (ad4.add gi) = some (.slice (aA V gi) (G.getD gi []).length (cA V gi)) from by
              obtain ⟨ad', e', _, h'⟩ := (HOUT.out w' hgw).at_ hlt
              rw [e4] at e'
              injection e' with e'
              subst e'
              exact h')
            subst e4
            clear hown hg hgr hfar HROW
            generalize G.getD gi [] = gg at *
            generalize aA V gi = ga at *
            generalize cA V gi = gc at *
            go_wp2_with fail
            obtain ⟨wy, rfl⟩ : ∃ wy, wy = wr := ⟨_, rfl⟩
            go_loopw [172] (fun i wr => ∃ ii : Nat, ii ≤ gg.length ∧ i = .int .i64 ii ∧ wr.ownsRow w9.heap.size 2 1 (.slice (some ⟨w9.heap.size, 0, none⟩) bs.length bs.length) bs.length (ints (sv (sn G gi ii) bs.length)) ∧ w9.grownBy wr none) (fun i _ => gg.length - (intOf i).toNat)
            case atStart => exact ⟨0, Nat.zero_le _, rfl, HO.out.1, HO.out.2⟩
            case round =>
              obtain ⟨ii, hii, rfl, hown, hg⟩ := hrel
              by_cases hil : ii < gg.length
              · have hal : gg[ii] < bs.length := HGR.out ii hil
                obtain ⟨ad5, e5, _, hx5⟩ := (HRG.out wr hg).at_ (by rw [show gg.length = gg.length from rfl]; exact hil)
                rw [gz_at gg hil] at hx5
                have HY := Lib.hid (fun (w' : World) (hgw : w9.grownBy w' none) (k : Nat) (hk : k < gg.length) => show w'.cell? (ad5.add k) = some (.int .i64 (gg[k] : Nat)) from by
                  obtain ⟨ad', e', _, h'⟩ := (HRG.out w' hgw).at_ hk
                  rw [e5] at e'
                  injection e' with e'
                  subst e'
                  rw [gz_at gg hk] at h'
                  exact h')
                have hx4 := HX.out wr hg
                have hcd := hown.cellAt gg[ii] (by omega)
                rw [sv_at _ hal] at hcd
                have hfz := hown.frozenAt gg[ii]
                have hst := hown.stored gg[ii] (.int .i64 ((cn (sn G gi ii) gg[ii] : Nat) + 1))
                rw [sv_next _ hal, ← HSX.out ii hil] at hst
                have hcnb : cn (sn G gi ii) gg[ii] ≤ 1000000 := by
                  have h1 := sn_cn G (i := ii) (a := gg[ii]) hlt
                  have h2 := HPM.out gg[ii] hal
                  omega
                have HST := Lib.hid (And.intro hst.1 (gb_new hg hst.2 (by intro g e; injection e with e; omega)))
                have HGA := Lib.hid (fun k (hk : k < gg.length) => HGR.out k hk)
                have HFA2 := Lib.hid (fun (k : Nat) (h : k < ii) => far_at HFR.out h hil)
                have hga : ga = some ad5 := e5
                subst hga
                clear hst hown hg e5
                generalize hAA : gg[ii] = a at *
                generalize cn (sn G gi ii) a = C at *
                have a0 : (0 : Int) ≤ (a : Int) := by omega
                have a1 : (a : Int) < (bs.length : Int) := by omega
                have an : ¬ (a : Int) < 0 := by omega
                have an2 : ¬ (bs.length : Int) ≤ (a : Int) := by omega
                have i0' : (0 : Int) ≤ (ii : Int) := by omega
                have i1' : (ii : Int) < (gg.length : Int) := by omega
                have hC1 : IntKind.i64.wrap ((C : Int) + 1) = (C : Int) + 1 := by rw [IntKind.wrap_i64]; omega
                go_wp2_with fail
                obtain ⟨wx, rfl⟩ : ∃ wx, wx = wr := ⟨_, rfl⟩
                clear hcd hfz hx4 hx5
                generalize (wx.setCell ⟨w9.heap.size, a, none⟩ (.int .i64 ((C : Int) + 1))) = wb at *
                go_loopw [29] (fun i wr => ∃ k : Nat, k ≤ ii ∧ i = .int .i64 k ∧ wb.grownBy wr none) (fun i _ => ii - (intOf i).toNat)
                case atStart => exact ⟨0, Nat.zero_le _, rfl, World.grownBy.refl _ _⟩
                case round =>
                  obtain ⟨k, hki, rfl, hgk⟩ := hrel
                  have hgq := HST.out.2.trans hgk
                  by_cases hkl : k < ii
                  · have hkg : k < gg.length := by omega
                    have hbl : gg[k] < bs.length := HGA.out k hkg
                    obtain ⟨adb, u, v, dd, ss, rfl, _, hb1, hc0, hc1, _, _⟩ := Rd.four (RB9.out wr hgq) hal
                    have gx := World.grownBy_alloc wr (.cells #[.int .i64 u, .int .i64 v] 27) none
                    obtain ⟨adb2, u', v', dd', ss', e6, _, hb2, hd0, hd1, _, _⟩ := Rd.four (RB9.out _ (hgq.trans gx)) hbl
                    obtain rfl : adb = adb2 := by injection e6
                    have hx4 := HX.out _ (hgq.trans gx)
                    have hx5 := HY.out _ (hgq.trans gx) k hkg
                    have hdf := HFA2.out k hkl
                    rw [show bg bs a = (u, v, dd, ss) from hb1, show bg bs gg[k] = (u', v', dd', ss') from hb2] at hdf
                    have hB1 := ab_bd HAB.out hal
                    have hB2 := ab_bd HAB.out hbl
                    rw [show bg bs a = (u, v, dd, ss) from hb1] at hB1
                    rw [show bg bs gg[k] = (u', v', dd', ss') from hb2] at hB2
                    obtain ⟨a1', a2', a3', a4'⟩ := hB1
                    obtain ⟨b1', b2', b3', b4'⟩ := hB2
                    dsimp only at hdf a1' a2' a3' a4' b1' b2' b3' b4'
                    have hmx := fun w => swT.max4 2 w (u - u') (u' - u) (v - v') (v' - v) (df u v u' v') rfl
                    have hndf : ¬ df u v u' v' < ap := by omega
                    clear hb1 hb2 e6 hdf
                    generalize gg[k] = b at *
                    generalize df u v u' v' = DF at *
                    have k0 : (0 : Int) ≤ (k : Int) := by omega
                    have k1 : (k : Int) < (gg.length : Int) := by omega
                    have k2 : (k : Int) < (ii : Int) := by omega
                    have bb0 : (0 : Int) ≤ (b : Int) := by omega
                    have bb1 : (b : Int) < (bs.length : Int) := by omega
                    have HGK := Lib.hid hgk
                    go_wp2_with fail
                    exact ⟨⟨k + 1, by omega, by go_num, HGK.out.trans ((World.grownBy_alloc _ _ _).trans (World.grownBy_alloc _ _ _))⟩, by simp [intOf]; omega⟩
                  · obtain rfl : k = ii := by omega
                    have HE := Lib.hid (And.intro (World.ownsRow.kept HST.out.1 hgk (by cases (Value.slice (some ⟨w9.heap.size, 0, none⟩) bs.length bs.length).ownBlock <;> simp)) hgq)
                    clear hgk hgq
                    go_wp2_with fail
                    exact ⟨⟨k + 1, hil, by go_num, HE.out.1, HE.out.2⟩, by simp [intOf]; omega⟩
              · obtain rfl : ii = gg.length := by omega
                rw [HSR.out] at hown
                have HE := Lib.hid (And.intro hown hg)
                clear hown hg
                go_wp2_with fail
                exact ⟨⟨gi + 1, hlt, by go_num, HE.out.1, HE.out.2⟩, by simp [intOf]; omega⟩
          · obtain rfl : gi = G.length := by omega
            rw [sn_end] at hown
            have hcN := HPM.out N HNL.out
            have HO := Lib.hid (And.intro hown hg)
            obtain ⟨adb, u, v, dd, ss, rfl, _, hb1, hc0, hc1, _, _⟩ := Rd.four (RB9.out wr hg) HNL.out
            have ga := World.grownBy_alloc wr (.cells #[.int .i64 u, .int .i64 v] 27) none
            have dd3 := Dx.new wr u v
            have HS0 := Lib.hid (And.intro (own_kept0 hown ga) (And.intro (hg.trans ga) dd3))
            have hNb := ab_bd HAB.out HNL.out
            rw [show bg bs N = (u, v, dd, ss) from hb1] at hNb
            have hsdN : sdk bs du dv N = sd u v du dv := by unfold sdk; rw [show bg bs N = (u, v, dd, ss) from hb1]
            have HSN := Lib.hid hsdN
            have n0 : (0 : Int) ≤ (N : Int) := by omega
            have n1 : (N : Int) < (bs.length : Int) := by omega
            clear hown hg ga dd3 hb1 hsdN hcN
            go_wp2_with fail
            obtain ⟨wy, rfl⟩ : ∃ wy, wy = wr := ⟨_, rfl⟩
            generalize (wy.alloc (.cells #[.int .i64 u, .int .i64 v] 27)) = wb at *
            generalize wy.heap.size = ob at *
            go_loopw [33] (fun i wr => ∃ k : Nat, k ≤ bs.length ∧ i = .int .i64 k ∧ wb.grownBy wr none) (fun i _ => bs.length - (intOf i).toNat)
            case atStart => exact ⟨0, Nat.zero_le _, rfl, World.grownBy.refl _ _⟩
            case round =>
              obtain ⟨k, hkn, rfl, hgk⟩ := hrel
              by_cases hkl : k < bs.length
              · have hgq := HS0.out.2.1.trans hgk
                obtain ⟨adb2, u', v', dd', ss', e6, _, hb2, hd0, hd1, _, _⟩ := Rd.four (RB9.out wr hgq) hkl
                obtain rfl : adb = adb2 := by injection e6
                have gx := World.grownBy_alloc wr (.cells #[.int .i64 u', .int .i64 v'] 27) none
                have hgr := hgk.trans gx
                have hcc := (own_kept0 HS0.out.1 hgr).cellAt k (by omega)
                rw [sv_at _ hkl, HPM.out k hkl] at hcc
                obtain ⟨x0, x1, _, _⟩ := DDK.out _ (HS0.out.2.1.trans hgr)
                obtain ⟨y0, y1, _, _⟩ := (HS0.out.2.2.keep hgr (by simp)).facts
                have hB2 := ab_bd HAB.out hkl
                rw [show bg bs k = (u', v', dd', ss') from hb2] at hB2
                have hle := HLE.out k hkl
                rw [HSN.out, show sdk bs du dv k = sd u' v' du dv by unfold sdk; rw [show bg bs k = (u', v', dd', ss') from hb2]] at hle
                obtain ⟨a1', a2', a3', a4'⟩ := hNb
                obtain ⟨b1', b2', b3', b4'⟩ := hB2
                dsimp only at a1' a2' a3' a4' b1' b2' b3' b4'
                unfold sd at hle
                obtain ⟨r1, r2⟩ := sqr_bd (u - du) (by omega) (by omega)
                obtain ⟨r3, r4⟩ := sqr_bd (v - dv) (by omega) (by omega)
                obtain ⟨r5, r6⟩ := sqr_bd (u' - du) (by omega) (by omega)
                obtain ⟨r7, r8⟩ := sqr_bd (v' - dv) (by omega) (by omega)
                have w1' : IntKind.i64.wrap (u - du) = u - du := by rw [IntKind.wrap_i64]; omega
                have w2' : IntKind.i64.wrap (v - dv) = v - dv := by rw [IntKind.wrap_i64]; omega
                have w3' : IntKind.i64.wrap (u' - du) = u' - du := by rw [IntKind.wrap_i64]; omega
                have w4' : IntKind.i64.wrap (v' - dv) = v' - dv := by rw [IntKind.wrap_i64]; omega
                have hnl : ¬ (u' - du) * (u' - du) + (v' - dv) * (v' - dv) < (u - du) * (u - du) + (v - dv) * (v - dv) := by omega
                have k0 : (0 : Int) ≤ (k : Int) := by omega
                have k1 : (k : Int) < (bs.length : Int) := by omega
                have HGK := Lib.hid hgk
                clear hb2 e6 hle hgk hgq gx hgr
                go_wp2_with fail
                exact ⟨⟨k + 1, hkl, by go_num, HGK.out.trans (World.grownBy_alloc _ _ _)⟩, by simp [intOf]; omega⟩
              · have HE := Lib.hid (And.intro HGW.out (HS0.out.2.1.trans hgk))
                clear hgk
                go_wp2_with fail
                go_ret
                exact ⟨rfl, gb_below (HE.out.1.trans HE.out.2)⟩
  · have hl' : 1048576 < z.length ∨ 1048576 < y.length := by omega
    go_enter Try.func5, Try.ntmps5
    go_wp2_with fail
    refine (long_yes _ _ _ _ _ _ _ hl' hm hy).mono ?_
    rintro e w' ⟨rfl, rfl⟩
    go_wp2_with fail
    go_ret
    exact ⟨rfl, Below.refl _ _⟩
end

end Go.Proofs.Ytmemclcoegmjjaa.toursLaw
