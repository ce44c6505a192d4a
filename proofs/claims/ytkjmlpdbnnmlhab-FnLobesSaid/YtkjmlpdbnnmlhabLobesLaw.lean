/- What the law on lobes does. -/
import Derived.Test.YtkjmlpdbnnmlhabRows
import Derived.Test.YtkjmlpdbnnmlhabSlc
import Derived.Test.YtkjmlpdbnnmlhabSmall
import Derived.Test.YtkjmlpdbnnmlhabOpens
import Derived.Test.YtkjmlpdbnnmlhabPlaceAll
import Derived.Test.YtkjmlpdbnnmlhabListI
import Derived.Test.YtkjmlpdbnnmlhabR8
import Derived.Test.YtkjmlpdbnnmlhabSrc
import Derived.Test.YtkjmlpdbnnmlhabFloatAll
import Derived.Test.YtkjmlpdbnnmlhabFWalk
import Derived.Test.YtkjmlpdbnnmlhabFinWalk
import Derived.Test.YtkjmlpdbnnmlhabFlAll
import Derived.Test.YtkjmlpdbnnmlhabPhasor
import Derived.Test.YtkjmlpdbnnmlhabListC
import Derived.Test.YtkjmlpdbnnmlhabSteerNum
import Derived.Test.YtkjmlpdbnnmlhabSineIn
import Derived.Test.YtkjmlpdbnnmlhabPolyNum
import Derived.Test.YtkjmlpdbnnmlhabPolyW
import Derived.Test.YtkjmlpdbnnmlhabPoly1
import Derived.Test.YtkjmlpdbnnmlhabPoly2
import Derived.Test.YtkjmlpdbnnmlhabGPoly
import Derived.Test.YtkjmlpdbnnmlhabGNum
import Derived.Test.YtkjmlpdbnnmlhabSrcW
import Derived.Test.YtkjmlpdbnnmlhabRq
import Derived.Test.YtkjmlpdbnnmlhabFine
import Derived.Test.YtkjmlpdbnnmlhabDrawOk
import Derived.Test.YtkjmlpdbnnmlhabB10
import Derived.Test.YtkjmlpdbnnmlhabCut
import Derived.Test.YtkjmlpdbnnmlhabListF
import Derived.Test.YtkjmlpdbnnmlhabCutDraw
import Derived.Test.YtkjmlpdbnnmlhabPeak
import Derived.Test.YtkjmlpdbnnmlhabReach
import Derived.Test.YtkjmlpdbnnmlhabReach2
import Derived.Test.YtkjmlpdbnnmlhabWidth
import Derived.Test.YtkjmlpdbnnmlhabSideAll
import Derived.Test.YtkjmlpdbnnmlhabRuns
import Derived.Test.YtkjmlpdbnnmlhabRuns2
import Derived.Test.YtkjmlpdbnnmlhabMarkF
import Derived.Test.YtkjmlpdbnnmlhabMeanNum
import Derived.Test.YtkjmlpdbnnmlhabTenAll
import Derived.Test.YtkjmlpdbnnmlhabLobesI
import Derived.Test.YtkjmlpdbnnmlhabRunsB
import Derived.Test.YtkjmlpdbnnmlhabCutNum
import Derived.Test.YtkjmlpdbnnmlhabLobesN
import Derived.Test.YtkjmlpdbnnmlhabSortI
import Derived.Test.YtkjmlpdbnnmlhabStrong
import Derived.Test.YtkjmlpdbnnmlhabStrongL
import Derived.WalkKit
import Derived.ProofKit
import Derived.OpenShut
import Derived.ShutString
import Derived.ChangeOld
import Derived.Below
import Derived.Lib.Hide
import Derived.BigQuiet
import Derived.Deep.QuietTactic
import Derived.WalkLawsBesides
import Derived.Outline
import Derived.Deep.RegionWith
import Derived.Deep.QuietTactic
import Derived.BigQuiet
import Derived.Deep.LoopGhost
import Derived.Deep.RegionHeld3
import Derived.Deep.CutRange
import Derived.Deep.CutBlock
import Derived.Deep.DeepCutAuto
import Derived.Laws.Cover2
namespace Go.Proofs.Ytkjmlpdbnnmlhab.lobesLaw
open Go.ChangeShapes Go.WideShapes Go.ChangeAt Go.RowKit
open Go.ChangeMaps (open_string shut_string)
set_option linter.unusedVariables false
open Go Ieee Go.RowKit
open Go.Proofs.Ytkjmlpdbnnmlhab.slc Go.Proofs.Ytkjmlpdbnnmlhab.small Go.Proofs.Ytkjmlpdbnnmlhab.opens Go.Proofs.Ytkjmlpdbnnmlhab.listI Go.Proofs.Ytkjmlpdbnnmlhab.r8 Go.Proofs.Ytkjmlpdbnnmlhab.floats Go.Proofs.Ytkjmlpdbnnmlhab.values Go.Proofs.Ytkjmlpdbnnmlhab.fine Go.Proofs.Ytkjmlpdbnnmlhab.b10 Go.Proofs.Ytkjmlpdbnnmlhab.cut Go.Proofs.Ytkjmlpdbnnmlhab.listF Go.Proofs.Ytkjmlpdbnnmlhab.cutDraw Go.Proofs.Ytkjmlpdbnnmlhab.reach2 Go.Proofs.Ytkjmlpdbnnmlhab.width Go.Proofs.Ytkjmlpdbnnmlhab.sideNum Go.Proofs.Ytkjmlpdbnnmlhab.side2 Go.Proofs.Ytkjmlpdbnnmlhab.runs Go.Proofs.Ytkjmlpdbnnmlhab.runsB Go.Proofs.Ytkjmlpdbnnmlhab.markF Go.Proofs.Ytkjmlpdbnnmlhab.lobesI Go.Proofs.Ytkjmlpdbnnmlhab.cutNum Go.Proofs.Ytkjmlpdbnnmlhab.lobesN Go.Proofs.Ytkjmlpdbnnmlhab.strongL

def atN (z : List Int) (k n : Nat) : Nat := if n ≤ 1 then 0 else (b10 z k n).toNat
theorem atN_lt (z : List Int) (k n : Nat) (h : 1 ≤ n) : atN z k n < n := by
  unfold atN
  split
  · omega
  · have := b10_bd (z := z) k (n : Int) (by omega); omega
theorem at_c (A : Option Addr) (c B : Nat) (z : List Int) (k n : Nat) (w : World) (hk : k ≤ 1000) (hm : z.length ≤ 1048576) (h1 : 1 ≤ n) (h2 : n ≤ 1000) (hz : Byt z) (hr : Rd w B A z.length (bt z)) :
    Calls Try.prog 17 #[.slice A z.length c, .int .i64 k, .int .i64 n] w fun e w' => e = .returned (.int .i64 (atN z k n)) ∧ w = w' := by
  by_cases hn : n ≤ 1
  · obtain rfl : n = 1 := by omega
    rw [show atN z k 1 = 0 from rfl]
    clear hr
    go_enter Try.func17, Try.ntmps17
    go_wp2
    go_ret
    exact ⟨rfl, rfl⟩
  · have := b10_bd (z := z) k (n : Int) (by omega)
    rw [show ((atN z k n : Nat) : Int) = b10 z k n by unfold atN; rw [if_neg hn]; omega]
    exact b10_at A c B z k n w hk hm (by omega) (by omega) hz hr
theorem take_mem2 (ls : List Int) (q : Int) (k : Nat) (h : k < ls.length) : decide (q ∈ ls.take (k + 1)) = (decide (q ∈ ls.take k) || (ls[k] == q)) := by
  rw [List.take_succ_eq_append_getElem h]
  generalize ls.take k = L
  generalize ls[k] = x
  have hm : (q ∈ L ++ [x]) ↔ (q ∈ L ∨ q = x) := by simp
  by_cases h1 : q ∈ L
  · rw [decide_eq_true (hm.2 (.inl h1)), decide_eq_true h1]; rfl
  · by_cases h2 : q = x
    · rw [decide_eq_true (hm.2 (.inr h2)), h2]; simp
    · rw [decide_eq_false (fun h => (hm.1 h).elim h1 h2), decide_eq_false h1, Bool.false_or]
      exact (beq_eq_false_iff_ne.2 (fun e => h2 e.symm)).symm
/-- Has the side level been met among the first k? -/
def fnd (vs : List Nat) (S l u : Nat) (b : Bool) : Nat → Bool
  | 0 => !b
  | k + 1 => if k < l ∨ u < k then fnd vs S l u b k || decide (vs.getD k 0 = S) else fnd vs S l u b k
theorem fnd_up {vs : List Nat} {S l u : Nat} {b : Bool} {k : Nat} (h : fnd vs S l u b k = true) (m : Nat) : fnd vs S l u b (k + m) = true := by
  induction m with
  | zero => exact h
  | succ m ih =>
    show (if _ then _ else _ : Bool) = true
    split
    · show (fnd vs S l u b (k + m) || _) = true
      rw [ih]; rfl
    · exact ih
theorem fnd_all {vs : List Nat} {S l u n : Nat} {b : Bool} (h : b = true → ∃ s, s < n ∧ (s < l ∨ u < s) ∧ vs.getD s 0 = S) : fnd vs S l u b n = true := by
  cases b with
  | false => have := fnd_up (vs := vs) (S := S) (l := l) (u := u) (b := false) (k := 0) rfl n; rwa [Nat.zero_add] at this
  | true =>
    obtain ⟨s, h1, h2, h3⟩ := h rfl
    have : fnd vs S l u true (s + 1) = true := by
      show (if _ then _ else _ : Bool) = true
      rw [if_pos h2, decide_eq_true h3, Bool.or_true]
    have := fnd_up this (n - (s + 1))
    rwa [show s + 1 + (n - (s + 1)) = n by omega] at this
theorem side_all {vs : List Nat} (h : ∀ x ∈ vs, x < 8) {l u : Nat} (hl : l ≤ u) (hu : u < vs.length) : ∃ (S : Nat) (b : Bool), sdR (kx vs) l u vs.length = (fw S, b) ∧ S < 8 ∧ b = (decide (0 < l) || decide (u + 1 < vs.length)) ∧ (∀ i, i < vs.length → (i < l ∨ u < i) → vs.getD i 0 ≤ S) ∧ fnd vs S l u b vs.length = true := by
  rcases side_is h hl hu with ⟨s, e, h1, h2, h3, h4⟩ | ⟨e, h1, h2⟩
  · refine ⟨_, true, e, get_lt h s, ?_, h4, fnd_all fun _ => ⟨s, h2, h3, rfl⟩⟩
    rcases h1 with q | q
    · rw [decide_eq_true q]; rfl
    · rw [decide_eq_true q, Bool.or_true]
  · refine ⟨0, false, by rw [e]; rfl, by decide, ?_, fun i a b => by omega, fnd_all fun q => by cases q⟩
    rw [decide_eq_false (by omega), decide_eq_false (by omega)]; rfl
/-- Lobes that are left out are no greater than those that are taken. -/
theorem left_out {vs : List Nat} {s t ls : List Int} {k : Nat} (hp : s.Perm ls) (hs : s.Pairwise fun x y => ¬ gtv vs y x) (ht : t.Perm (s.take k)) {b e : Int} (hb : b ∈ ls) (hn : b ∉ t) (he : e ∈ t) : vs.getD b.toNat 0 ≤ vs.getD e.toNat 0 := by
  have h1 : b ∈ s.take k ++ s.drop k := by rw [List.take_append_drop]; exact hp.mem_iff.2 hb
  have h2 : b ∈ s.drop k := (List.mem_append.1 h1).resolve_left fun q => hn (ht.mem_iff.2 q)
  rw [← List.take_append_drop k s] at hs
  have := (List.pairwise_append.1 hs).2.2 e (ht.mem_iff.1 he) b h2
  unfold gtv at this
  omega

set_option maxRecDepth 100000 in
set_option maxHeartbeats 8000000 in
theorem law (A A' : Option Addr) (c c' : Nat) (z y : List Int) (w : World) (hz : Byt z) (hy : Byt y) (hm : z.length ≤ 9223372036854775807) (hmy : y.length ≤ 9223372036854775807) (hr : Rd w w.heap.size A z.length (bt z)) (hr' : Rd w w.heap.size A' y.length (bt y)) :
    Calls Try.prog 5 #[.slice A z.length c, .slice A' y.length c'] w fun e w' => e = .returned (.bool true) ∧ Below w.heap.size w w' := by
  by_cases hl : z.length ≤ 1048576 ∧ y.length ≤ 1048576
  · obtain ⟨hl1, hl2⟩ := hl
    have hlong := fun w => long_no A A' z.length c y.length c' w hl1 hl2
    have HCD := Lib.hid (cut_b10 A c z w hl1 hz hr)
    have HAT := Lib.hid (fun (k n : Nat) (hk : k ≤ 1000) (h1 : 1 ≤ n) (h2 : n ≤ 1000) (w2 : World) (g : w.grownBy w2 none) => at_c A' c' w.heap.size y k n w2 hk hl2 h1 h2 hy (hr'.kept0 g (Nat.le_refl _)))
    clear hr hr' hz hy
    go_enter Try.func5, Try.ntmps5
    go_wp2_with fail
    refine (hlong _).mono ?_
    rintro e w' ⟨rfl, rfl⟩
    clear hlong
    go_wp2_with fail
    refine HCD.out.mono ?_
    rintro e w5 ⟨vs, A4, c4, hv1, hv2, hv8, rfl, ho5, hg5⟩
    clear HCD
    obtain ⟨hc1, hc2⟩ := own_le ho5
    unfold maxLen at hc2
    have R5 := Rd.of_lst ho5 (Nat.mul_one _).symm
    obtain ⟨ad, had, hac⟩ : ∃ ad, A4 = some ad ∧ ∀ j (h : j < vs.length) (wr : World), w5.grownBy wr none → wr.cell? (ad.add j) = some (.float .f32 (fw (vs.getD j 0))) := by
      obtain ⟨ad, e, _, _⟩ := R5.at_ hv1
      refine ⟨ad, e, fun j h wr g => ?_⟩
      obtain ⟨ad2, e2, _, c2⟩ := (R5.kept0 g (Nat.le_refl _)).at_ h
      rw [e] at e2
      injection e2 with e2
      subst e2
      exact c2
    subst had
    have HAC := Lib.hid hac
    have hat1 := HAT.out 0 vs.length (by decide) hv1 (by omega)
    have hat2 := HAT.out 1 5 (by decide) (by decide) (by decide)
    have ha := atN_lt y 0 vs.length hv1
    have hm5 := atN_lt y 1 5 (by decide)
    generalize atN y 0 vs.length = a at *
    generalize atN y 1 5 = m at *
    have HAT1 := Lib.hid (hat1 w5 hg5)
    have HAT2 := Lib.hid (fun w2 (g : w5.grownBy w2 none) => hat2 w2 (hg5.trans g))
    clear HAT hat1 hat2 hac
    obtain ⟨l, u, hW, hla, hau, hun, hin, hlo, hhi⟩ := width_is hv8 ha hv2
    obtain ⟨l2, u2, hM, hla2, hau2, hun2, hup, hdn, hlo2, hhi2⟩ := main_is hv8 ha hv2
    obtain ⟨S, b3, hS, hS8, hb3, hSl, hfa⟩ := side_all hv8 (Nat.le_trans hla2 hau2) hun2
    obtain ⟨q, hq⟩ := lobes_ne hv8 hv1 hv2
    have hlb := runs_in true (kx vs) vs.length vs.length 0
    have HWI := Lib.hid (fun (wr : World) (g : w5.grownBy wr none) => widthL_impl (some ad) vs.length c4 w5.heap.size a (kx vs) wr (by omega) g.size (R5.kept0 g (Nat.le_refl _)))
    have HMA := Lib.hid (fun (wr : World) (g : w5.grownBy wr none) => mainL_impl (some ad) vs.length c4 w5.heap.size a (kx vs) wr (by omega) g.size (R5.kept0 g (Nat.le_refl _)))
    have HSD := Lib.hid (fun (wr : World) (g : w5.grownBy wr none) => side_impl ad vs.length c4 w5.heap.size a l2 u2 (kx vs) wr (by omega) ha hc1 hc2 g.size (R5.kept0 g (Nat.le_refl _)) hM hla2 hau2 hun2)
    have HLO := Lib.hid (fun (wr : World) (g : w5.grownBy wr none) => lobes_c (kx vs) vs.length (some ad) c4 w5.heap.size wr (by omega) (R5.kept0 g (Nat.le_refl _)) g.size)
    rw [show runsT true (kx vs) vs.length = (runs true (kx vs) vs.length vs.length 0, true) from if_pos ⟨hv1, by omega⟩] at HLO
    rw [hW] at HWI
    rw [hM] at HMA
    rw [hS] at HSD
    obtain ⟨ls, hls⟩ : ∃ ls, runs true (kx vs) vs.length vs.length 0 = ls := ⟨_, rfl⟩
    have HST := Lib.hid (fun (wr : World) (g : w5.grownBy wr none) => strong_c vs ad c4 w5.heap.size m q (min m ls.length) ls wr hv8 hv1 hv2 (by omega) (R5.kept0 g (Nat.le_refl _)) g.size hls (by rw [← hls]; exact hq) (by rw [← hls, hq]) (by rw [← hls]; exact hlb))
    rw [hls] at HLO hq hlb
    have HORD := Lib.hid (fun i j => fw_ord (get_lt hv8 i) (get_lt hv8 j))
    have HHLF := Lib.hid (fun j => fw_half (get_lt hv8 a) (get_lt hv8 j))
    have HORS := Lib.hid (fun i => fw_ord (get_lt hv8 i) hS8)
    have HHV := Lib.hid (fw_hv (get_lt hv8 a))
    have HIN := Lib.hid (And.intro hin (And.intro hlo hhi))
    have HMN := Lib.hid (And.intro hup (And.intro hdn (And.intro hlo2 hhi2)))
    have HB3 := Lib.hid hb3
    have HSL := Lib.hid hSl
    have HFA := Lib.hid hfa
    have HLB := Lib.hid hlb
    have HQ := Lib.hid hq
    have hlq : q + 1 ≤ 12 := by
      have := runs_len true (kx vs) vs.length vs.length 0
      rw [hls, hq] at this; omega
    have HLQ := Lib.hid hlq
    clear hlq hls hq hlb hfa hSl hb3 hlo2 hhi2 hup hdn hin hlo hhi hS hM hW hS8 hv8 hc1 hc2 ho5 R5
    have HG5 := Lib.hid hg5
    clear hg5
    generalize hnn : vs.length = n at *
    have HNN := Lib.hid hnn
    clear hnn
    go_wp2_with fail
    refine HAT1.out.mono ?_
    rintro e w6 ⟨rfl, rfl⟩
    clear HAT1
    go_wp2_with fail
    refine (HWI.out _ (World.grownBy.refl _ _)).mono ?_
    rintro e w6 ⟨rfl, h6⟩
    go_wp2_with fail
    refine (HMA.out _ h6).mono ?_
    rintro e w7 ⟨rfl, g7⟩
    have h7 := h6.trans g7
    go_wp2_with fail
    refine (HSD.out _ h7).mono ?_
    rintro e w8 ⟨rfl, g8⟩
    have h8 := h7.trans g8
    go_wp2_with fail
    refine (HAT2.out _ h8).mono ?_
    rintro e w8' ⟨rfl, rfl⟩
    go_wp2_with fail
    refine (HST.out _ h8).mono ?_
    rintro e w9 ⟨s, t, g, cf, hp, hs, ht, rfl, htc, hg0, hg1, g9⟩
    have h9 := h8.trans g9
    have HTT := Lib.hid (And.intro hp (And.intro hs ht))
    have HTC := Lib.hid (And.intro htc (And.intro hg0 hg1))
    clear hp hs ht htc hg0 hg1
    go_wp2_with fail
    refine (HLO.out _ h9).mono ?_
    rintro e w10 ⟨A7, c7, rfl, ho7, g10⟩
    have h10 := h9.trans g10
    have HR7 := Lib.hid (Rd.of_lst ho7 (Nat.mul_one _).symm)
    have HG10 := Lib.hid g10
    have H10 := Lib.hid h10
    clear HWI HMA HSD HAT2 HST HLO ho7 g10 h10 h9 h8 h7 h6 g7 g8 g9
    have p1 : (0 : Int) ≤ (l : Int) := by omega
    have p2 : (l : Int) ≤ a := by omega
    have p3 : (a : Int) ≤ u := by omega
    have p4 : (u : Int) < n := by omega
    have p5 : (0 : Int) ≤ (l2 : Int) := by omega
    have p6 : (l2 : Int) ≤ a := by omega
    have p7 : (a : Int) ≤ u2 := by omega
    have p8 : (u2 : Int) < n := by omega
    have p9 : (0 : Int) ≤ (a : Int) := by omega
    have p10 : (a : Int) < n := by omega
    have cA := HAC.out a ha w10 H10.out
    have hqv := fun w : World => run_float_arith (P := Try.prog) w .quo 61 .f32 _ _ _ HHV.out
    generalize hxa : fw (vs.getD a 0) = xa at *
    generalize hhf : hvF xa = hf at *
    go_wp2_with fail
    clear cA hqv HHV hxa hhf
    go_loopw [22] (fun i wr => ∃ k : Nat, l ≤ k ∧ k ≤ u + 1 ∧ i = .int .i64 k ∧ w10.grownBy wr none) (fun i _ => (200 - intOf i).toNat)
    case atStart => exact ⟨l, Nat.le_refl _, by omega, rfl, World.grownBy.refl _ _⟩
    case round =>
      obtain ⟨k, hk0, hk, rfl, hg⟩ := hrel
      by_cases hlt : k ≤ u
      · have ck := HAC.out k (by omega) wr (H10.out.trans hg)
        have o1 : (FloatKind.f32.format.order (fw (vs.getD k 0)) hf == some .lt) = false := by
          rw [HHLF.out k]
          have := HIN.out.1 k hk0 hlt
          have : compare (2 * vs.getD k 0) (vs.getD a 0) ≠ .lt := fun h => by have := Nat.compare_eq_lt.1 h; omega
          simpa using this
        have k0 : (0 : Int) ≤ (k : Int) := by omega
        have k1 : (k : Int) < n := by omega
        have k2 : (k : Int) ≤ u := by omega
        generalize fw (vs.getD k 0) = xk at *
        go_wp2_with fail
        go_roundw
        case rel => exact ⟨k + 1, by omega, by omega, by go_num, hg⟩
        case measure => simp [intOf]; omega
      · have HH := Lib.hid hg
        have k2 : ¬ (k : Int) ≤ (u : Int) := by omega
        clear hg hk hk0
        go_upto_region 20 with fail
        go_cut [167] (fun v wx => v = .bool false ∧ w10.grownBy wx none)
        case first =>
          have hgw := HH.out
          by_cases hz : l = 0
          · have j1 : decide ((0 : Int) < (l : Int)) = false := decide_eq_false (by omega)
            have j2 : decide (0 < l) = false := decide_eq_false (by omega)
            have j3 : ¬ 0 < l := by omega
            clear hz
            by_cases hz2 : u + 1 = n
            · as_aux_lemma =>
                have i0 : IntKind.i64.wrap ((u : Int) + 1) = (u : Int) + 1 := by rw [IntKind.wrap_i64]; omega
                have i1 : decide ((u : Int) + 1 < (n : Int)) = false := decide_eq_false (by omega)
                have i2 : decide (u + 1 < n) = false := decide_eq_false (by omega)
                have i3 : ¬ u + 1 < n := by omega
                have iq := i3
                clear hz2
                go_wp2_with fail
                go_meet
                exact ⟨rfl, hgw⟩
            · as_aux_lemma =>
                have cu : wr.cell? ⟨ad.block, ad.off + (u + 1), none⟩ = some (.float .f32 (fw (vs.getD (u + 1) 0))) := HAC.out (u + 1) (by omega) wr (H10.out.trans hgw)
                have i0 : IntKind.i64.wrap ((u : Int) + 1) = (u : Int) + 1 := by rw [IntKind.wrap_i64]; omega
                have i1 : (u : Int) + 1 < (n : Int) := by omega
                have i2 : u + 1 < n := by omega
                have iq := i2
                have i3 : (0 : Int) ≤ (u : Int) + 1 := by omega
                have o2 : FloatKind.f32.format.order (fw (vs.getD (u + 1) 0)) hf = some .lt := by
                  rw [HHLF.out (u + 1), Nat.compare_eq_lt.2 (HIN.out.2.2 (by omega))]
                generalize fw (vs.getD (u + 1) 0) = xu at *
                clear hz2
                go_wp2_with fail
                go_meet
                exact ⟨rfl, hgw⟩
          · obtain ⟨j, hj⟩ : ∃ j, l = j + 1 := ⟨l - 1, by omega⟩
            have cj := HAC.out j (by omega) wr (H10.out.trans hgw)
            have j1 : decide ((0 : Int) < (l : Int)) = true := decide_eq_true (by omega)
            have j2 : decide (0 < l) = true := decide_eq_true (by omega)
            have j3 : 0 < l := by omega
            have j4 : (l : Int) - 1 = (j : Int) := by omega
            have j5 : IntKind.i64.wrap (j : Int) = (j : Int) := by rw [IntKind.wrap_i64]; omega
            have j6 : (0 : Int) ≤ (j : Int) := by omega
            have j7 : (j : Int) < n := by omega
            have o1 : FloatKind.f32.format.order (fw (vs.getD j 0)) hf = some .lt := by
              rw [HHLF.out j]
              have := HIN.out.2.1 (by omega)
              rw [show l - 1 = j by omega] at this
              rw [Nat.compare_eq_lt.2 this]
            generalize fw (vs.getD j 0) = xj at *
            clear hz hj
            by_cases hz2 : u + 1 = n
            · as_aux_lemma =>
                have i0 : IntKind.i64.wrap ((u : Int) + 1) = (u : Int) + 1 := by rw [IntKind.wrap_i64]; omega
                have i1 : decide ((u : Int) + 1 < (n : Int)) = false := decide_eq_false (by omega)
                have i2 : decide (u + 1 < n) = false := decide_eq_false (by omega)
                have i3 : ¬ u + 1 < n := by omega
                have iq := i3
                clear hz2
                go_wp2_with fail
                go_meet
                exact ⟨rfl, hgw⟩
            · as_aux_lemma =>
                have cu : wr.cell? ⟨ad.block, ad.off + (u + 1), none⟩ = some (.float .f32 (fw (vs.getD (u + 1) 0))) := HAC.out (u + 1) (by omega) wr (H10.out.trans hgw)
                have i0 : IntKind.i64.wrap ((u : Int) + 1) = (u : Int) + 1 := by rw [IntKind.wrap_i64]; omega
                have i1 : (u : Int) + 1 < (n : Int) := by omega
                have i2 : u + 1 < n := by omega
                have iq := i2
                have i3 : (0 : Int) ≤ (u : Int) + 1 := by omega
                have o2 : FloatKind.f32.format.order (fw (vs.getD (u + 1) 0)) hf = some .lt := by
                  rw [HHLF.out (u + 1), Nat.compare_eq_lt.2 (HIN.out.2.2 (by omega))]
                generalize fw (vs.getD (u + 1) 0) = xu at *
                clear hz2
                go_wp2_with fail
                go_meet
                exact ⟨rfl, hgw⟩
        case rest =>
          as_aux_lemma =>
            obtain ⟨rfl, hgc⟩ := hcut
            have HH2 := Lib.hid hgc
            clear hgc HH HHLF HIN
            go_wp2_with fail
            go_loopw [23] (fun i wr => ∃ k : Nat, l2 ≤ k ∧ k ≤ u2 ∧ i = .int .i64 k ∧ w10.grownBy wr none) (fun i _ => (200 - intOf i).toNat)
            case atStart => exact ⟨l2, Nat.le_refl _, by omega, rfl, HH2.out⟩
            case round =>
              clear HH2
              obtain ⟨k, hk0, hk, rfl, hg⟩ := hrel
              by_cases hlt : k < u2
              · have ck := HAC.out k (by omega) wr (H10.out.trans hg)
                have ck1 : wr.cell? ⟨ad.block, ad.off + (k + 1), none⟩ = some (.float .f32 (fw (vs.getD (k + 1) 0))) := HAC.out (k + 1) (by omega) wr (H10.out.trans hg)
                have k0 : (0 : Int) ≤ (k : Int) := by omega
                have k1 : (k : Int) < n := by omega
                have k2 : (k : Int) < u2 := by omega
                have k3 : (0 : Int) ≤ (k : Int) + 1 := by omega
                have k4 : (k : Int) + 1 < n := by omega
                have k4' : k + 1 < n := by omega
                have k5 : IntKind.i64.wrap ((k : Int) + 1) = (k : Int) + 1 := by rw [IntKind.wrap_i64]; omega
                by_cases hka : k < a
                · as_aux_lemma =>
                    have o1 : (FloatKind.f32.format.order (fw (vs.getD k 0)) (fw (vs.getD (k + 1) 0)) == some .gt) = false := by
                      rw [HORD.out k (k + 1)]
                      have := HMN.out.1 k hk0 hka
                      have : compare (vs.getD k 0) (vs.getD (k + 1) 0) ≠ .gt := fun h => by have := Nat.compare_eq_gt.1 h; omega
                      simpa using this
                    have k6 : decide ((k : Int) < (a : Int)) = true := decide_eq_true (by omega)
                    have k7 : decide ((a : Int) ≤ (k : Int)) = false := decide_eq_false (by omega)
                    have k8 : (k : Int) < (a : Int) := by omega
                    have k9 : ¬ a ≤ k := by omega
                    generalize fw (vs.getD k 0) = xk at *
                    generalize fw (vs.getD (k + 1) 0) = xk1 at *
                    go_wp2_with fail
                    go_quiet (fail)
                    go_wp2_with fail
                    go_roundw
                    case rel => exact ⟨k + 1, by omega, by omega, by go_num, hg.trans (gb_drewN _ _ _)⟩
                    case measure => simp [intOf]; omega
                · as_aux_lemma =>
                    have o1 : (FloatKind.f32.format.order (fw (vs.getD (k + 1) 0)) (fw (vs.getD k 0)) == some .gt) = false := by
                      rw [HORD.out (k + 1) k]
                      have := HMN.out.2.1 k (by omega) hlt
                      have : compare (vs.getD (k + 1) 0) (vs.getD k 0) ≠ .gt := fun h => by have := Nat.compare_eq_gt.1 h; omega
                      simpa using this
                    have k6 : decide ((k : Int) < (a : Int)) = false := decide_eq_false (by omega)
                    have k7 : decide ((a : Int) ≤ (k : Int)) = true := decide_eq_true (by omega)
                    have k8 : (a : Int) ≤ (k : Int) := by omega
                    have k9 : a ≤ k := by omega
                    generalize fw (vs.getD k 0) = xk at *
                    generalize fw (vs.getD (k + 1) 0) = xk1 at *
                    go_wp2_with fail
                    go_quiet (fail)
                    go_wp2_with fail
                    go_roundw
                    case rel => exact ⟨k + 1, by omega, by omega, by go_num, hg.trans (gb_drewN _ _ _)⟩
                    case measure => simp [intOf]; omega
              · have HH := Lib.hid hg
                have k2 : ¬ (k : Int) < (u2 : Int) := by omega
                clear hg hk hk0
                go_upto_region 27 with fail
                go_cut [249] (fun v wx => v = .bool false ∧ w10.grownBy wx none)
                case first =>
                  have hgw := HH.out
                  by_cases hz : l2 = 0
                  · have j1 : decide ((0 : Int) < (l2 : Int)) = false := decide_eq_false (by omega)
                    have j2 : decide (0 < l2) = false := decide_eq_false (by omega)
                    have j3 : ¬ 0 < l2 := by omega
                    clear hz
                    by_cases hz2 : u2 + 1 = n
                    · as_aux_lemma =>
                        have i0 : IntKind.i64.wrap ((u2 : Int) + 1) = (u2 : Int) + 1 := by rw [IntKind.wrap_i64]; omega
                        have i1 : decide ((u2 : Int) + 1 < (n : Int)) = false := decide_eq_false (by omega)
                        have i2 : decide (u2 + 1 < n) = false := decide_eq_false (by omega)
                        have i3 : ¬ u2 + 1 < n := by omega
                        have iq := i3
                        clear hz2
                        obtain rfl : b3 = false := by rw [HB3.out, decide_eq_false j3, decide_eq_false iq]; rfl
                        clear HB3 iq
                        go_wp2_with fail
                        go_quiet (fail)
                        go_wp2_with fail
                        go_meet
                        exact ⟨rfl, hgw.trans (gb_drewN _ _ _)⟩
                    · as_aux_lemma =>
                        have cu : wr.cell? ⟨ad.block, ad.off + (u2 + 1), none⟩ = some (.float .f32 (fw (vs.getD (u2 + 1) 0))) := HAC.out (u2 + 1) (by omega) wr (H10.out.trans hgw)
                        have i0 : IntKind.i64.wrap ((u2 : Int) + 1) = (u2 : Int) + 1 := by rw [IntKind.wrap_i64]; omega
                        have i1 : (u2 : Int) + 1 < (n : Int) := by omega
                        have i2 : u2 + 1 < n := by omega
                        have iq := i2
                        have i3 : (0 : Int) ≤ (u2 : Int) + 1 := by omega
                        have cv := HAC.out u2 (by omega) wr (H10.out.trans hgw)
                        have i4 : (0 : Int) ≤ (u2 : Int) := by omega
                        have o2 : FloatKind.f32.format.order (fw (vs.getD (u2 + 1) 0)) (fw (vs.getD u2 0)) = some .gt := by
                          rw [HORD.out (u2 + 1) u2, Nat.compare_eq_gt.2 (HMN.out.2.2.2 (by omega))]
                        generalize fw (vs.getD (u2 + 1) 0) = xu at *
                        generalize fw (vs.getD u2 0) = xv at *
                        clear hz2
                        obtain rfl : b3 = true := by rw [HB3.out, decide_eq_false j3, decide_eq_true iq]; rfl
                        clear HB3 iq
                        go_wp2_with fail
                        go_quiet (fail)
                        go_wp2_with fail
                        go_meet
                        exact ⟨rfl, hgw.trans (gb_drewN _ _ _)⟩
                  · obtain ⟨j, hj⟩ : ∃ j, l2 = j + 1 := ⟨l2 - 1, by omega⟩
                    have cj := HAC.out j (by omega) wr (H10.out.trans hgw)
                    have j1 : decide ((0 : Int) < (l2 : Int)) = true := decide_eq_true (by omega)
                    have j2 : decide (0 < l2) = true := decide_eq_true (by omega)
                    have j3 : 0 < l2 := by omega
                    have j4 : (l2 : Int) - 1 = (j : Int) := by omega
                    have j5 : IntKind.i64.wrap (j : Int) = (j : Int) := by rw [IntKind.wrap_i64]; omega
                    have j6 : (0 : Int) ≤ (j : Int) := by omega
                    have j7 : (j : Int) < n := by omega
                    have cl := HAC.out l2 (by omega) wr (H10.out.trans hgw)
                    have o1 : FloatKind.f32.format.order (fw (vs.getD j 0)) (fw (vs.getD l2 0)) = some .gt := by
                      rw [HORD.out j l2]
                      have := HMN.out.2.2.1 (by omega)
                      rw [show l2 - 1 = j by omega] at this
                      rw [Nat.compare_eq_gt.2 this]
                    generalize fw (vs.getD j 0) = xj at *
                    generalize fw (vs.getD l2 0) = xl at *
                    clear hz hj
                    by_cases hz2 : u2 + 1 = n
                    · as_aux_lemma =>
                        have i0 : IntKind.i64.wrap ((u2 : Int) + 1) = (u2 : Int) + 1 := by rw [IntKind.wrap_i64]; omega
                        have i1 : decide ((u2 : Int) + 1 < (n : Int)) = false := decide_eq_false (by omega)
                        have i2 : decide (u2 + 1 < n) = false := decide_eq_false (by omega)
                        have i3 : ¬ u2 + 1 < n := by omega
                        have iq := i3
                        clear hz2
                        obtain rfl : b3 = true := by rw [HB3.out, decide_eq_true j3, decide_eq_false iq]; rfl
                        clear HB3 iq
                        go_wp2_with fail
                        go_quiet (fail)
                        go_wp2_with fail
                        go_meet
                        exact ⟨rfl, hgw.trans (gb_drewN _ _ _)⟩
                    · as_aux_lemma =>
                        have cu : wr.cell? ⟨ad.block, ad.off + (u2 + 1), none⟩ = some (.float .f32 (fw (vs.getD (u2 + 1) 0))) := HAC.out (u2 + 1) (by omega) wr (H10.out.trans hgw)
                        have i0 : IntKind.i64.wrap ((u2 : Int) + 1) = (u2 : Int) + 1 := by rw [IntKind.wrap_i64]; omega
                        have i1 : (u2 : Int) + 1 < (n : Int) := by omega
                        have i2 : u2 + 1 < n := by omega
                        have iq := i2
                        have i3 : (0 : Int) ≤ (u2 : Int) + 1 := by omega
                        have cv := HAC.out u2 (by omega) wr (H10.out.trans hgw)
                        have i4 : (0 : Int) ≤ (u2 : Int) := by omega
                        have o2 : FloatKind.f32.format.order (fw (vs.getD (u2 + 1) 0)) (fw (vs.getD u2 0)) = some .gt := by
                          rw [HORD.out (u2 + 1) u2, Nat.compare_eq_gt.2 (HMN.out.2.2.2 (by omega))]
                        generalize fw (vs.getD (u2 + 1) 0) = xu at *
                        generalize fw (vs.getD u2 0) = xv at *
                        clear hz2
                        obtain rfl : b3 = true := by rw [HB3.out, decide_eq_true j3, decide_eq_true iq]; rfl
                        clear HB3 iq
                        go_wp2_with fail
                        go_quiet (fail)
                        go_wp2_with fail
                        go_meet
                        exact ⟨rfl, hgw.trans (gb_drewN _ _ _)⟩
                case rest =>
                  as_aux_lemma =>
                    obtain ⟨rfl, hgc⟩ := hcut
                    have HH2 := Lib.hid hgc
                    clear hgc HH HMN HB3 p1 p2 p3 p4 p6 p7 p9 p10 hla hau hla2 hau2 ha hun hun2
                    go_wp2_with fail
                    go_loopw [24, 25] (fun fo i wr => ∃ k : Nat, k ≤ n ∧ i = .int .i64 k ∧ fo = .bool (fnd vs S l2 u2 b3 k) ∧ w10.grownBy wr none) (fun _ i _ => (200 - intOf i).toNat)
                    case atStart => exact ⟨0, Nat.zero_le _, rfl, rfl, HH2.out⟩
                    case round =>
                      clear HH2
                      obtain ⟨k, hk, rfl, rfl, hg⟩ := hrel
                      by_cases hlt : k < n
                      · as_aux_lemma =>
                          have ck := HAC.out k hlt wr (H10.out.trans hg)
                          have k0 : (0 : Int) ≤ (k : Int) := by omega
                          have k1 : (k : Int) < n := by omega
                          have hfs : fnd vs S l2 u2 b3 (k + 1) = if k < l2 ∨ u2 < k then fnd vs S l2 u2 b3 k || decide (vs.getD k 0 = S) else fnd vs S l2 u2 b3 k := rfl
                          by_cases ho : k < l2 ∨ u2 < k
                          · rw [if_pos ho] at hfs
                            have hle := HSL.out k hlt ho
                            have o1 : (FloatKind.f32.format.order (fw (vs.getD k 0)) (fw S) == some .gt) = false := by
                              rw [HORS.out k]
                              have : compare (vs.getD k 0) S ≠ .gt := fun h => by have := Nat.compare_eq_gt.1 h; omega
                              simpa using this
                            have o2 : (FloatKind.f32.format.order (fw (vs.getD k 0)) (fw S) == some .eq) = decide (vs.getD k 0 = S) := by
                              rw [HORS.out k]
                              rcases Nat.lt_or_eq_of_le hle with h | h
                              · rw [Nat.compare_eq_lt.2 h, decide_eq_false (Nat.ne_of_lt h)]; rfl
                              · rw [Nat.compare_eq_eq.2 h, decide_eq_true h]; rfl
                            have HF := Lib.hid hfs
                            clear hfs hle
                            generalize decide (vs.getD k 0 = S) = bE at *
                            generalize fw (vs.getD k 0) = xk at *
                            generalize fnd vs S l2 u2 b3 k = bk at *
                            by_cases hkl : k < l2
                            · have m1 : (k : Int) < (l2 : Int) := by omega
                              have m2 : decide ((k : Int) < (l2 : Int)) = true := decide_eq_true m1
                              have m3 : decide (k < l2) = true := decide_eq_true hkl
                              clear ho
                              cases bk
                              · rw [Bool.false_or] at HF
                                go_wp2_with fail
                                go_roundw
                                case rel => exact ⟨k + 1, by omega, by go_num, by rw [HF.out], hg⟩
                                case measure => simp [intOf]; omega
                              · rw [Bool.true_or] at HF
                                go_wp2_with fail
                                go_roundw
                                case rel => exact ⟨k + 1, by omega, by go_num, by rw [HF.out], hg⟩
                                case measure => simp [intOf]; omega
                            · have m1 : ¬ (k : Int) < (l2 : Int) := by omega
                              have m2 : decide ((k : Int) < (l2 : Int)) = false := decide_eq_false m1
                              have m3 : decide (k < l2) = false := decide_eq_false hkl
                              have m4 : (u2 : Int) < (k : Int) := by omega
                              have m5 : u2 < k := by omega
                              clear ho
                              cases bk
                              · rw [Bool.false_or] at HF
                                go_wp2_with fail
                                go_roundw
                                case rel => exact ⟨k + 1, by omega, by go_num, by rw [HF.out], hg⟩
                                case measure => simp [intOf]; omega
                              · rw [Bool.true_or] at HF
                                go_wp2_with fail
                                go_roundw
                                case rel => exact ⟨k + 1, by omega, by go_num, by rw [HF.out], hg⟩
                                case measure => simp [intOf]; omega
                          · rw [if_neg ho] at hfs
                            have HF := Lib.hid hfs
                            clear hfs
                            generalize fnd vs S l2 u2 b3 k = bk at *
                            have m1 : ¬ (k : Int) < (l2 : Int) := by omega
                            have m2 : decide ((k : Int) < (l2 : Int)) = false := decide_eq_false m1
                            have m3 : decide (k < l2) = false := decide_eq_false (by omega)
                            have m4 : ¬ (u2 : Int) < (k : Int) := by omega
                            have m5 : ¬ u2 < k := by omega
                            clear ho
                            go_wp2_with fail
                            go_roundw
                            case rel => exact ⟨k + 1, by omega, by go_num, by rw [HF.out], hg⟩
                            case measure => simp [intOf]; omega
                      · obtain rfl : n = k := by omega
                        rw [HFA.out]
                        as_aux_lemma =>
                          have HL0 : 0 < ls.length := by have := HQ.out; omega
                          obtain ⟨ad7, e7, _, _⟩ := HR7.out.at_ HL0
                          subst e7
                          have HLS := Lib.hid (fun (wr : World) (g : w10.grownBy wr none) (k : Nat) (hk : k < ls.length) => show wr.cell? (ad7.add k) = some (.int .i64 (ls.getD k 0)) by
                            obtain ⟨ad', e, _, cx⟩ := (HR7.out.kept0 g (Nat.le_refl _)).at_ hk
                            injection e with e
                            subst e
                            rw [cls_get ls k hk] at cx
                            simpa [List.getD, hk] using cx)
                          have HTS := Lib.hid (fun (wr : World) (gr : w10.grownBy wr none) (j : Nat) (hj : j < min m ls.length) => show wr.cell? ⟨g, j, none⟩ = some (.int .i64 (t.getD j 0)) from (HG10.out.trans gr).cell (HTC.out.1 j hj) (by simp))
                          have hslen := HTT.out.1.length_eq
                          have HTL := Lib.hid (show t.length = min m ls.length by rw [HTT.out.2.2.length_eq, List.length_take, hslen]; omega)
                          have HLO2 := Lib.hid (fun (k j : Nat) (hk : k < ls.length) (hj : j < min m ls.length) (hn : ls.getD k 0 ∉ t) => left_out HTT.out.1 HTT.out.2.1 HTT.out.2.2 (b := ls.getD k 0) (e := t.getD j 0) (by simp [List.getD, hk]) hn (by
                            have : j < t.length := by rw [HTL.out]; exact hj
                            simp [List.getD, this]))
                          have HLBK := Lib.hid (fun (k : Nat) (hk : k < ls.length) => HLB.out (ls.getD k 0) (by simp [List.getD, hk]))
                          have HTBK := Lib.hid (fun (j : Nat) (hj : j < min m ls.length) => HLB.out (t.getD j 0) (by
                            have h1 : j < t.length := by rw [HTL.out]; exact hj
                            have h2 : t.getD j 0 ∈ t := by simp [List.getD, h1]
                            exact HTT.out.1.mem_iff.1 (List.mem_of_mem_take (HTT.out.2.2.mem_iff.1 h2))))
                          have HL12 : ls.length ≤ 12 := by rw [HQ.out]; exact HLQ.out
                          have HTK := Lib.hid (fun (y0 : Int) (j : Nat) (hj : j < min m ls.length) => show decide (y0 ∈ t.take (j + 1)) = (decide (y0 ∈ t.take j) || (t.getD j 0 == y0)) by
                            have h1 : j < t.length := by rw [HTL.out]; exact hj
                            rw [take_mem2 t y0 j h1]
                            simp [List.getD, h1])
                          have HTE := Lib.hid (show t.take (min m ls.length) = t from List.take_of_length_le (by rw [HTL.out]; exact Nat.le_refl _))
                          have hmn1 : min m ls.length ≤ m := Nat.min_le_left _ _
                          have hmn2 : min m ls.length ≤ ls.length := Nat.min_le_right _ _
                          have hmn5 : (((min m ls.length : Nat) : Int) != min (m : Int) (ls.length : Int)) = false := by
                            rw [show min (m : Int) (ls.length : Int) = ((min m ls.length : Nat) : Int) by omega]
                            simp
                          have hmn3 : (if (m : Int) < (ls.length : Int) then (m : Int) else (ls.length : Int)) = (min m ls.length : Nat) := by split <;> omega
                          have hmn4 : (if (ls.length : Int) < (m : Int) then (ls.length : Int) else (m : Int)) = (min m ls.length : Nat) := by split <;> omega
                          clear HFA HSL HORS HLB HTT HTC HTL HR7 HQ HLQ HG10 hslen
                          generalize min m ls.length = kk at *
                          generalize hL : ls.length = L at *
                          have HH := Lib.hid hg
                          clear hg hL HL0
                          generalize hwr2 : wr = W10 at *
                          clear hwr2
                          go_wp2_with fail
                          clear hmn1 hmn3 hmn4 hmn5
                          have HV12 := Lib.hid hv2
                          have HKK := Lib.hid hmn2
                          clear hmn2 hv1 hv2
                          go_loopw [293] (fun i wr => ∃ k : Nat, k ≤ L ∧ i = .int .i64 k ∧ w10.grownBy wr none) (fun i _ => (200 - intOf i).toNat)
                          case atStart => exact ⟨0, Nat.zero_le _, rfl, HH.out⟩
                          case round =>
                            clear HH
                            obtain ⟨k, hk, rfl, hg⟩ := hrel
                            by_cases hlt : k < L
                            · have k0 : (0 : Int) ≤ (k : Int) := by omega
                              have k1 : (k : Int) < L := by omega
                              go_wp2_with fail
                              go_loopw [27, 298] (fun v i wi => ∃ j : Nat, j ≤ kk ∧ i = .int .i64 j ∧ v = .bool (decide (ls.getD k 0 ∈ t.take j)) ∧ w10.grownBy wi none) (fun _ i _ => (200 - intOf i).toNat)
                              case atStart => exact ⟨0, Nat.zero_le _, rfl, by simp, hg⟩
                              case round =>
                                clear hg
                                obtain ⟨j, hj, rfl, rfl, hg⟩ := hrel
                                by_cases hjk : j < kk
                                · as_aux_lemma =>
                                    have ct := HTS.out wr hg j hjk
                                    have cl := HLS.out wr hg k hlt
                                    have HT := Lib.hid (HTK.out (ls.getD k 0) j hjk)
                                    have j0 : (0 : Int) ≤ (j : Int) := by omega
                                    have j1 : (j : Int) < kk := by omega
                                    have hj2 : j < 200 := by have := HKK.out; omega
                                    generalize t.getD j 0 = x0 at *
                                    generalize ls.getD k 0 = y0 at *
                                    cases hb : decide (y0 ∈ t.take j)
                                    · rw [hb, Bool.false_or] at HT
                                      clear hb
                                      go_wp2_with fail
                                      go_quiet (fail)
                                      go_wp2_with fail
                                      go_roundw
                                      case rel => exact ⟨j + 1, by omega, by go_num, by rw [HT.out], hg.trans (gb_drewN _ _ _)⟩
                                      case measure => simp [intOf]; omega
                                    · rw [hb, Bool.true_or] at HT
                                      clear hb
                                      go_wp2_with fail
                                      go_quiet (fail)
                                      go_wp2_with fail
                                      go_roundw
                                      case rel => exact ⟨j + 1, by omega, by go_num, by rw [HT.out], hg.trans (gb_drewN _ _ _)⟩
                                      case measure => simp [intOf]; omega
                                · obtain rfl : kk = j := by omega
                                  rw [HTE.out]
                                  obtain ⟨bin, hbin⟩ : ∃ bin, decide (ls.getD k 0 ∈ t) = bin := ⟨_, rfl⟩
                                  rw [hbin]
                                  have HBIN := Lib.hid hbin
                                  have HH := Lib.hid hg
                                  clear hbin hg
                                  as_aux_lemma =>
                                    go_wp2_with fail
                                    go_loopw [316] (fun i wi => ∃ j : Nat, j ≤ kk ∧ i = .int .i64 j ∧ w10.grownBy wi none) (fun i _ => (200 - intOf i).toNat)
                                    case atStart => exact ⟨0, Nat.zero_le _, rfl, HH.out⟩
                                    case round =>
                                      clear HH
                                      obtain ⟨j, hj, rfl, hg⟩ := hrel
                                      by_cases hjk : j < kk
                                      · as_aux_lemma =>
                                          have ct := HTS.out wr hg j hjk
                                          have cl := HLS.out wr hg k hlt
                                          have tb := HTBK.out j hjk
                                          have lb := HLBK.out k hlt
                                          have hlo := HLO2.out k j hlt hjk
                                          have hbn := HBIN.out
                                          have j0 : (0 : Int) ≤ (j : Int) := by omega
                                          have j1 : (j : Int) < kk := by omega
                                          have hj2 : j < 200 := by have := HKK.out; omega
                                          obtain ⟨x0, hx0⟩ : ∃ x0 : Nat, t.getD j 0 = (x0 : Int) := ⟨(t.getD j 0).toNat, by omega⟩
                                          obtain ⟨y0, hy0⟩ : ∃ y0 : Nat, ls.getD k 0 = (y0 : Int) := ⟨(ls.getD k 0).toNat, by omega⟩
                                          rw [hx0] at ct tb hlo
                                          rw [hy0] at cl lb hlo hbn
                                          rw [Int.toNat_natCast, Int.toNat_natCast] at hlo
                                          have cx := HAC.out x0 (by omega) wr (H10.out.trans hg)
                                          have cy := HAC.out y0 (by omega) wr (H10.out.trans hg)
                                          have t0 : (0 : Int) ≤ (x0 : Int) := by omega
                                          have t1 : (x0 : Int) < n := by omega
                                          have t2 : (0 : Int) ≤ (y0 : Int) := by omega
                                          have t3 : (y0 : Int) < n := by omega
                                          have t4 : decide ((x0 : Int) < 0) = false := decide_eq_false (by omega)
                                          have t5 : decide ((n : Int) ≤ (x0 : Int)) = false := decide_eq_false (by omega)
                                          have t6 : decide (n ≤ x0) = false := decide_eq_false (by omega)
                                          cases bin
                                          · have hle := hlo (by simpa using hbn)
                                            have o1 : (FloatKind.f32.format.order (fw (vs.getD y0 0)) (fw (vs.getD x0 0)) == some .gt) = false := by
                                              rw [HORD.out y0 x0]
                                              have : compare (vs.getD y0 0) (vs.getD x0 0) ≠ .gt := fun h => by have := Nat.compare_eq_gt.1 h; omega
                                              simpa using this
                                            clear hle hlo hbn hx0 hy0 tb lb HBIN
                                            generalize fw (vs.getD y0 0) = fy at *
                                            generalize fw (vs.getD x0 0) = fx at *
                                            go_wp2_with fail
                                            go_quiet (fail)
                                            go_wp2_with fail
                                            go_roundw
                                            case rel => exact ⟨j + 1, by omega, by go_num, hg.trans (gb_drewN _ _ _)⟩
                                            case measure => simp [intOf]; omega
                                          · clear hlo hbn hx0 hy0 tb lb HBIN
                                            go_wp2_with fail
                                            go_quiet (fail)
                                            go_wp2_with fail
                                            go_roundw
                                            case rel => exact ⟨j + 1, by omega, by go_num, hg.trans (gb_drewN _ _ _)⟩
                                            case measure => simp [intOf]; omega
                                      · obtain rfl : kk = j := by omega
                                        go_wp2_with fail
                                        go_roundw
                                        case rel => exact ⟨k + 1, by omega, by go_num, hg⟩
                                        case measure => simp [intOf]; omega
                            · obtain rfl : L = k := by omega
                              have HB := Lib.hid (gb_below (HG5.out.trans (H10.out.trans hg)))
                              go_wp2_with fail
                              go_ret
                              exact ⟨rfl, HB.out⟩
  · have hl' : 1048576 < z.length ∨ 1048576 < y.length := by omega
    go_enter Try.func5, Try.ntmps5
    go_wp2_with fail
    refine (long_yes _ _ _ _ _ _ _ hl' hm hmy).mono ?_
    rintro e w' ⟨rfl, rfl⟩
    go_wp2_with fail
    go_ret
    exact ⟨rfl, Below.refl _ _⟩

theorem walk (a0 : Option Addr) (len0 cap0 : Nat) (z0 : List Int) (a1 : Option Addr) (len1 cap1 : Nat) (z1 : List Int) (w : World) (l0 : z0.length = len0) (m0 : len0 ≤ maxLen) (w0 : ∀ x ∈ z0, (Lit.int .u8 x).wf = true) (r0 : Rd w w.heap.size a0 len0 (fun j => .int .u8 (z0.getD j 0)))
    (l1 : z1.length = len1) (m1 : len1 ≤ maxLen) (w1 : ∀ x ∈ z1, (Lit.int .u8 x).wf = true) (r1 : Rd w w.heap.size a1 len1 (fun j => .int .u8 (z1.getD j 0))) :
    Calls Try.prog 5 #[.slice a0 len0 cap0, .slice a1 len1 cap1] w fun e w' => e = .returned (.bool true) ∧ Below w.heap.size w w' := by
  subst l0 l1
  unfold maxLen at m0 m1
  exact law a0 a1 cap0 cap1 z0 z1 w (Byt.of w0) (Byt.of w1) (by omega) (by omega) r0 r1

end Go.Proofs.Ytkjmlpdbnnmlhab.lobesLaw
