/- The least square of a distance, by the program. -/
import Derived.Test.YtdanlghaiekeaaaRows
import Derived.Test.YtdanlghaiekeaaaSlc
import Derived.Test.YtdanlghaiekeaaaSmall
import Derived.Test.YtdanlghaiekeaaaOpens
import Derived.Test.YtdanlghaiekeaaaPlaces
import Derived.Test.YtdanlghaiekeaaaPlaceSet
import Derived.Test.YtdanlghaiekeaaaListP
import Derived.Test.YtdanlghaiekeaaaLeast
import Derived.WalkKit
import Derived.ProofKit
import Derived.OpenShut
import Derived.ShutString
import Derived.ChangeOld
import Derived.Below
import Derived.Lib.Hide
import Derived.BigQuiet
import Derived.Deep.QuietTactic
import Derived.WalkLawsBesides
import Derived.Outline
import Derived.Deep.QuietTactic
import Derived.BigQuiet
import Derived.Deep.LoopGhost
import Derived.Deep.RegionHeld3
namespace Go.Proofs.Ytdanlghaiekeaaa.least2
open Go.ChangeShapes Go.WideShapes Go.ChangeAt Go.RowKit
open Go.ChangeMaps (open_string shut_string)
set_option linter.unusedVariables false
open Go Go.RowKit
open Go.Proofs.Ytdanlghaiekeaaa.slc Go.Proofs.Ytdanlghaiekeaaa.small Go.Proofs.Ytdanlghaiekeaaa.opens Go.Proofs.Ytdanlghaiekeaaa.places Go.Proofs.Ytdanlghaiekeaaa.placeSet Go.Proofs.Ytdanlghaiekeaaa.listP Go.Proofs.Ytdanlghaiekeaaa.least

theorem sqd (p q : Int × Int) (w : World) (a1 : -8192 ≤ p.1 - q.1) (a2 : p.1 - q.1 ≤ 8192) (a3 : -8192 ≤ p.2 - q.2) (a4 : p.2 - q.2 ≤ 8192) :
    Calls Try.prog 106 #[.agg #[.int .i64 p.1, .int .i64 p.2], .agg #[.int .i64 q.1, .int .i64 q.2]] w fun e w' => e = .returned (.int .i64 (sq p q)) ∧ w.grownBy w' none := by
  obtain ⟨x1, x2⟩ := sqr_bd (p.1 - q.1) a1 a2
  obtain ⟨x3, x4⟩ := sqr_bd (p.2 - q.2) a3 a4
  go_enter Try.func106, Try.ntmps106
  go_wp2
  go_quiet (fail)
  go_wp2
  go_ret
  exact ⟨rfl, ((World.grownBy_alloc _ _ _).trans (World.grownBy_alloc _ _ _)).trans (gb_drewN _ _ _)⟩

theorem lim_bd {ps : List (Int × Int)} (h : vp ps = true) (a : Int) (ha : 0 ≤ a ∧ a ≤ 134217728) (i k : Nat) (hi : i ≤ ps.length) (hk : k ≤ i) (hki : 0 < k → i < ps.length) : 0 ≤ lim a (pr ps i k) ∧ lim a (pr ps i k) ≤ 134217728 := by
  have key : ∀ (l : List Int) (a : Int), (0 ≤ a ∧ a ≤ 134217728) → (∀ x ∈ l, 0 ≤ x ∧ x ≤ 134217728) → 0 ≤ l.foldl min a ∧ l.foldl min a ≤ 134217728 := by
    intro l
    induction l with
    | nil => intro a ha _; exact ha
    | cons x t ih =>
      intro a ha h
      have hx := h x (by simp)
      exact ih _ (by omega) fun y hy => h y (by simp [hy])
  exact key _ a ha (pr_bd h i k hi hk hki)

set_option maxHeartbeats 1000000 in
set_option maxRecDepth 100000 in
theorem le_impl (A : Option Addr) (c B : Nat) (ps : List (Int × Int)) (w : World) (hr : Rd w B A (ps.length * 2) (pcell ps)) (hB : B ≤ w.heap.size) (hcap : ps.length ≤ c) (hcm : c ≤ 9223372036854775807) (hv : vp ps = true) (h2 : 2 ≤ ps.length) :
    Calls Try.prog 32 #[.slice A ps.length c] w fun e w' => e = .returned (.tuple #[.int .i64 (lim (sqa ps 1 0) (pr ps ps.length 0)), .bool true]) ∧ w.grownBy w' none := by
  have hl16 := (vp_yes hv).2.1
  have HVP := Lib.hid hv
  have HC0 := is_impl A c B ps w (by omega) hr hB
  rw [hv] at HC0
  have HC := Lib.hid HC0
  clear hv HC0
  go_enter Try.func32, Try.ntmps32
  go_wp2_with fail
  refine HC.out.mono ?_
  rintro e w1 ⟨rfl, hg1⟩
  obtain ⟨ad, e, _, hx1, hy1⟩ := Rd.pair (hr.kept0 hg1 hB) (k := 0) (by omega)
  obtain ⟨bd, e', _, hx2, hy2⟩ := Rd.pair (hr.kept0 hg1 hB) (k := 1) (by omega)
  subst e
  injection e' with e'
  subst e'
  simp only [Nat.zero_mul, Nat.one_mul] at hx1 hy1 hx2 hy2
  have ez : ad.add 0 = ad := rfl
  rw [ez] at hx1 hy1
  clear ez
  have ey : ad.add 2 = ⟨ad.block, ad.off + 2, none⟩ := rfl
  rw [ey] at hx2 hy2
  clear ey
  obtain ⟨a1, a2, a3, a4⟩ := ok_at HVP.out 0 (by omega)
  obtain ⟨b1, b2, b3, b4⟩ := ok_at HVP.out 1 (by omega)
  have hk1 : (1 : Int) < ps.length := by omega
  have hk0 : (0 : Int) < ps.length := by omega
  have hn1 : 1 < ps.length := by omega
  have hn0 : 0 < ps.length := by omega
  go_wp2_with fail
  go_region_held3 (fun w' => w'.cell? ad = some (.int .i64 ps[0].1) ∧ w'.cell? ⟨ad.block, ad.off + 1, none⟩ = some (.int .i64 ps[0].2) ∧
      w'.cell? ⟨ad.block, ad.off + 2, none⟩ = some (.int .i64 ps[1].1) ∧ w'.cell? ⟨ad.block, ad.off + 2 + 1, none⟩ = some (.int .i64 ps[1].2) ∧ w.grownBy w' none)
    (first
      | (go_split_ands
         exact ⟨hg.cell (by assumption) (by simp), hg.cell (by assumption) (by simp), hg.cell (by assumption) (by simp), hg.cell (by assumption) (by simp), World.grownBy.trans (by assumption) hg⟩)
      | exact ⟨hx1, hy1, hx2, hy2, ⟨hg1.os, hg1.tape, hg1.output, hg1.size, hg1.block⟩⟩)
    ((go_at_call 106; refine (sqd ps[0] ps[1] _ (by omega) (by omega) (by omega) (by omega)).mono ?_; rintro e w' ⟨rfl, hg⟩))
  obtain ⟨_, _, _, _, hgs⟩ : (w'.cell? ad = some (.int .i64 ps[0].1) ∧ w'.cell? ⟨ad.block, ad.off + 1, none⟩ = some (.int .i64 ps[0].2) ∧ w'.cell? ⟨ad.block, ad.off + 2, none⟩ = some (.int .i64 ps[1].1) ∧ w'.cell? ⟨ad.block, ad.off + 2 + 1, none⟩ = some (.int .i64 ps[1].2) ∧ w.grownBy w' none) := by assumption
  have hfst : sq ps[0] ps[1] = lim (sqa ps 1 0) (pr ps 0 0) := by rw [sq_comm, ← sqa_at ps 1 0 (by omega) (by omega)]; rfl
  have HF := Lib.hid hfst
  have ha0 := sqa_bd HVP.out 1 0 (by omega) (by omega)
  clear hfst
  go_wp2_with fail
  go_loopw [4, 26] (fun v i wr => ∃ k : Nat, k ≤ ps.length ∧ i = .int .i64 k ∧ v = .int .i64 (lim (sqa ps 1 0) (pr ps k 0)) ∧ w.grownBy wr none) (fun _ i _ => ps.length - (intOf i).toNat)
  case atStart => exact ⟨0, Nat.zero_le _, rfl, by rw [HF.out], hgs⟩
  case round =>
    obtain ⟨k, hk, rfl, rfl, hg⟩ := hrel
    by_cases hlt : k < ps.length
    · obtain ⟨bd, e, _, hx1, hy1⟩ := Rd.pair (hr.kept0 hg hB) hlt
      injection e with e
      subst e
      have hkc : k ≤ c := by omega
      go_wp2_with fail
      obtain ⟨wo, rfl⟩ : ∃ wo : World, wo = wr := ⟨_, rfl⟩
      go_loopw [4, 35] (fun v j wi => ∃ m : Nat, m ≤ k ∧ j = .int .i64 m ∧ v = .int .i64 (lim (sqa ps 1 0) (pr ps k m)) ∧ (wo.alloc (.cells #[.int .i64 ps[k].1, .int .i64 ps[k].2] 49)).grownBy wi none) (fun _ j _ => k - (intOf j).toNat)
      case atStart => exact ⟨0, Nat.zero_le _, rfl, rfl, World.grownBy.refl _ _⟩
      case round =>
        obtain ⟨m, hm, rfl, rfl, hgi⟩ := hrel
        have hgw := (hg.trans (World.grownBy_alloc _ _ _)).trans hgi
        by_cases hmk : m < k
        · obtain ⟨bd, e, _, hxm, hym⟩ := Rd.pair (hr.kept0 hgw hB) (Nat.lt_trans hmk hlt)
          injection e with e
          subst e
          have hp0 := (boxed2 hgi).1
          have hp1 := (boxed2 hgi).2
          have hz : wo.heap.size < wr.heap.size := by have := hgi.size; simp at this; omega
          obtain ⟨l1, l2⟩ := lim_bd HVP.out (sqa ps 1 0) ha0 k m hk hm fun _ => hlt
          obtain ⟨x1, x2⟩ := sqa_bd HVP.out k m hlt (by omega)
          have hs : lim (sqa ps 1 0) (pr ps k (m + 1)) = min (lim (sqa ps 1 0) (pr ps k m)) (sq ps[k] ps[m]) := by
            rw [pr_next, lim_snoc, sqa_at ps k m hlt (by omega)]
          rw [sqa_at ps k m hlt (by omega)] at x1 x2
          obtain ⟨c1, c2, c3, c4⟩ := ok_at HVP.out k hlt
          obtain ⟨d1, d2, d3, d4⟩ := ok_at HVP.out m (by omega)
          have HS := Lib.hid hs
          clear hs
          go_wp2_with fail
          refine (sqd ps[k] ps[m] _ (by omega) (by omega) (by omega) (by omega)).mono ?_
          rintro e w5 ⟨rfl, hg5⟩
          have hgj := (hgi.trans (World.grownBy_alloc _ _ _)).trans hg5
          go_wp2_with fail
          go_roundw
          case rel => exact ⟨m + 1, by omega, by go_num, congrArg (Value.int .i64) (by rw [HS.out]; split <;> omega), hgj⟩
          case measure => simp [intOf]; omega
        · obtain rfl : m = k := by omega
          have hrow := pr_row ps m
          have HR := Lib.hid hrow
          clear hrow
          go_wp2
          go_roundw
          case rel => exact ⟨m + 1, by omega, by go_num, by rw [HR.out], hgw⟩
          case measure => simp [intOf]; omega
    · obtain rfl : k = ps.length := by omega
      go_wp2
      go_ret2
      exact ⟨rfl, hg⟩

theorem le_spec_no : True := trivial

theorem le_impl_no (A : Option Addr) (c B : Nat) (ps : List (Int × Int)) (w : World) (hm : ps.length ≤ 9223372036854775807) (hr : Rd w B A (ps.length * 2) (pcell ps)) (hB : B ≤ w.heap.size) (h : vp ps = false ∨ ps.length < 2) :
    Calls Try.prog 32 #[.slice A ps.length c] w fun e w' => e = .returned (.tuple #[.int .i64 0, .bool false]) ∧ w.grownBy w' none := by
  have HC0 := is_impl A c B ps w hm hr hB
  cases hv : vp ps
  · rw [hv] at HC0
    have HC := Lib.hid HC0
    clear h hv HC0
    go_enter Try.func32, Try.ntmps32
    go_wp2_with fail
    refine HC.out.mono ?_
    rintro e w1 ⟨rfl, hg1⟩
    go_wp2_with fail
    go_ret2
    exact ⟨rfl, hg1⟩
  · rw [hv] at h HC0
    have HC := Lib.hid HC0
    clear hv HC0
    have h2 : ps.length < 2 := by
      rcases h with h | h
      · cases h
      · exact h
    have h3 : (ps.length : Int) < 2 := by omega
    clear h
    go_enter Try.func32, Try.ntmps32
    go_wp2_with fail
    refine HC.out.mono ?_
    rintro e w1 ⟨rfl, hg1⟩
    go_wp2_with fail
    go_ret2
    exact ⟨rfl, hg1⟩

theorem same (ps : List (Int × Int)) (hv : vp ps = true) (h2 : 2 ≤ ps.length) : lim (sqa ps 1 0) (pr ps ps.length 0) = lsp (pr ps ps.length 0) := by
  obtain ⟨t, ht⟩ := pr_head ps (ps.length - 2)
  rw [Nat.sub_add_cancel h2] at ht
  have hb := pr_bd hv ps.length 0 (Nat.le_refl _) (Nat.zero_le _) (fun h => absurd h (by omega))
  rw [ht] at hb ⊢
  rw [same_least (sqa ps 1 0) t (hb _ (by simp)).1 fun x hx => (hb x (by simp [hx])).1]
theorem c_spec : True := trivial
theorem c_impl (A : Option Addr) (c B : Nat) (ps : List (Int × Int)) (w : World) (hm : ps.length ≤ 9223372036854775807) (hcap : ps.length ≤ c) (hcm : c ≤ 9223372036854775807) (hr : Rd w B A (ps.length * 2) (pcell ps)) (hB : B ≤ w.heap.size) :
    Calls Try.prog 32 #[.slice A ps.length c] w fun e w' => e = .returned (.tuple #[.int .i64 (leR ps).1, .bool (leR ps).2]) ∧ w.grownBy w' none := by
  unfold leR
  split
  · rename_i h
    have := le_impl A c B ps w hr hB hcap hcm h.1 h.2
    rw [same ps h.1 h.2] at this
    exact this
  · rename_i h
    refine le_impl_no A c B ps w hm hr hB ?_
    cases hv : vp ps
    · exact .inl rfl
    · exact .inr (Nat.lt_of_not_le fun h2 => h ⟨hv, h2⟩)

end Go.Proofs.Ytdanlghaiekeaaa.least2
