/- slices.Sort over at most seven integers. -/
import Derived.Test.YtmemclcoegmjjaaRows
import Derived.Test.YtmemclcoegmjjaaSlc
import Derived.Test.YtmemclcoegmjjaaSmall
import Derived.Test.YtmemclcoegmjjaaListI
import Derived.WalkKit
import Derived.ProofKit
import Derived.OpenShut
import Derived.ShutString
import Derived.ChangeOld
import Derived.Below
import Derived.Lib.Hide
import Derived.BigQuiet
import Derived.Deep.QuietTactic
import Derived.WalkLawsBesides
import Derived.Outline
import Derived.Deep.QuietTactic
import Derived.BigQuiet
import Derived.Deep.LoopGhost
import Derived.RangeFuncBox
namespace Go.Proofs.Ytmemclcoegmjjaa.sortO
open Go.ChangeShapes Go.WideShapes Go.ChangeAt Go.RowKit
open Go.ChangeMaps (open_string shut_string)
set_option linter.unusedVariables false
open Go Ieee Go.RowKit
open Go.Proofs.Ytmemclcoegmjjaa.slc Go.Proofs.Ytmemclcoegmjjaa.small Go.Proofs.Ytmemclcoegmjjaa.listI

theorem own_any {w w' : World} {base : Nat} {e : TypeId} {size : Nat} {v : Value} {n : Nat} {xs : List Value} (h : w.ownsRow base e size v n xs) (hg : w.grownBy w' none) : w'.ownsRow base e size v n xs := own_kept0 h hg
def iLt (a b : Int) : Prop := a < b
theorem less_c (x y : Int) (w : World) : Calls Try.prog 190 #[.int .i64 x, .int .i64 y] w fun e w' => e = .returned (.bool (decide (x < y))) ∧ w = w' := by
  go_enter Try.func190, Try.ntmps190
  go_wp2
  go_ret
  exact ⟨by simp, rfl⟩
set_option maxHeartbeats 4000000 in
set_option maxRecDepth 100000 in
theorem ins_ord (g n m b cf cc base : Nat) (l : List Int) (w : World) (hl : l.length = n) (hb : b ≤ m) (hm : m ≤ n) (hn : n ≤ 1000) (hbs : base ≤ g) (ho : w.ownsRow base 2 1 (.slice (some ⟨g, 0, none⟩) n cf) n (ints l)) :
    Calls Try.prog 184 #[.slice (some ⟨g, 0, none⟩) m cc, .int .i64 0, .int .i64 (b : Int)] w fun e w' => e = .returned (.tuple #[]) ∧ ∃ s : List Int, s.Perm (l.take b) ∧ s.Pairwise (fun x y => ¬ iLt y x) ∧ w'.ownsRow base 2 1 (.slice (some ⟨g, 0, none⟩) n cf) n (ints (s ++ l.drop b)) ∧ w.grownBy w' (some g) := by
  have htr : ∀ a b c : Int, ¬ iLt b a → ¬ iLt c b → ¬ iLt c a := fun a b c h1 h2 => by unfold iLt at *; omega
  have has : ∀ a b : Int, iLt a b → ¬ iLt b a := fun a b h => by unfold iLt at *; omega
  have hd : ∀ x ∈ l, (fun _ : Int => True) x := fun _ _ => trivial
  have HO0 := Lib.hid ho
  have HL := Lib.hid hl
  have b0 : (b : Int) ≤ 1000 := by omega
  clear ho hl
  go_enter Try.func184, Try.ntmps184
  go_wp2_with fail
  go_loopw [6] (fun iv wr => ∃ i : Nat, (i = 1 ∨ i ≤ b) ∧ 1 ≤ i ∧ i ≤ 1001 ∧ iv = .int .i64 i ∧ (∃ s : List Int, s.length = min i l.length ∧ s.Perm (l.take i) ∧ s.Pairwise (fun x y => ¬ iLt y x) ∧ wr.ownsRow base 2 1 (.slice (some ⟨g, 0, none⟩) n cf) n (ints (s ++ l.drop i))) ∧ w.grownBy wr (some g)) (fun iv _ => (2000 - intOf iv).toNat)
  case atStart =>
    refine ⟨1, by omega, by omega, by omega, rfl, ⟨l.take 1, by rw [List.length_take], List.Perm.refl _, ?_, by rw [List.take_append_drop]; exact HO0.out⟩, World.grownBy.refl _ _⟩
    match l with
    | [] => simp
    | [x] => simp
    | x :: y :: r => simp
  case round =>
    obtain ⟨i, hib, hi1, hi2, rfl, ⟨s, hsl, hsp, hss, hown⟩, hg⟩ := hrel
    by_cases hlt : i < b
    · have hli : i < l.length := by rw [HL.out]; omega
      have hsi : s.length = i := by omega
      have hdr := List.drop_eq_getElem_cons hli
      have htk := List.take_succ_eq_append_getElem hli
      have i1 : (i : Int) < (b : Int) := by omega
      have HT := Lib.hid htk
      have HSP := Lib.hid hsp
      have HSS := Lib.hid hss
      rw [hdr] at hown
      have HO := Lib.hid (And.intro hown hg)
      have hxd : (fun _ : Int => True) l[i] := hd _ (List.getElem_mem hli)
      have hsd : ∀ z ∈ s, (fun _ : Int => True) z := fun z hz => hd z (List.mem_of_mem_take (hsp.mem_iff.1 hz))
      have HXD := Lib.hid (And.intro hxd hsd)
      clear hxd hsd
      generalize l[i] = x at *
      generalize hrr : l.drop (i + 1) = rest at *
      clear hdr htk hsp hss hown hg
      go_wp2_with fail
      go_loopw [7] (fun jv wr => ∃ p1 p2 : List Int, s = p1 ++ p2 ∧ jv = .int .i64 (p1.length : Nat) ∧ (∀ z ∈ p2, iLt x z) ∧ wr.ownsRow base 2 1 (.slice (some ⟨g, 0, none⟩) n cf) n (ints (p1 ++ x :: (p2 ++ rest))) ∧ w.grownBy wr (some g)) (fun jv _ => (intOf jv).toNat)
      case atStart => exact ⟨s, [], by rw [List.append_nil], by rw [hsi], by simp, HO.out.1, HO.out.2⟩
      case round =>
        obtain ⟨p1, p2, hsp, rfl, hp2, hown, hg⟩ := hrel
        have hnl : (p1 ++ x :: (p2 ++ rest)).length = n := by
          have := hown.1
          simp only [ints, List.length_map, Nat.mul_one] at this
          exact this
        rcases List.eq_nil_or_concat p1 with rfl | ⟨q, y, hq⟩
        · have HF := Lib.hid (And.intro hp2 (And.intro hown hg))
          rw [List.nil_append] at hsp
          have HSE := Lib.hid hsp
          clear hp2 hown hg hsp
          have z0 : decide ((0 : Int) < ((([] : List Int).length : Nat) : Int)) = false := by decide
          go_wp2_with fail
          go_quiet (fail)
          go_wp2_with fail
          go_roundw
          case rel =>
            obtain ⟨f1, f2, f3⟩ := HF.out
            refine ⟨i + 1, by omega, by omega, by omega, by go_num, ⟨x :: s, by rw [List.length_cons, hsi]; omega, ?_, ?_, ?_⟩, f3.trans (gb_drewN _ _ _)⟩
            · rw [HT.out]
              exact (List.Perm.cons x HSP.out).trans (List.perm_append_comm (l₁ := [x]))
            · exact List.pairwise_cons.2 ⟨fun z hz => has _ _ (f1 z (HSE.out ▸ hz)), HSS.out⟩
            · rw [HSE.out, hrr]; exact own_any f2 (gb_drewN _ _ _)
          case measure => simp [intOf]; omega
        · rw [List.concat_eq_append] at hq
          subst hq
          have hql : (q ++ [y]).length = q.length + 1 := by simp
          have ej : q ++ [y] ++ x :: (p2 ++ rest) = q ++ y :: x :: (p2 ++ rest) := by simp
          rw [ej] at hown hnl
          rw [hql]
          have hjn : q.length + 1 < n := by rw [← hnl]; simp
          have hyd : (fun _ : Int => True) y := HXD.out.2 y (by rw [hsp]; simp)
          have cy : wr.cell? ⟨g, q.length, none⟩ = some (.int .i64 y) := by
            rw [hown.cellAt q.length (by omega)]
            simp [ints]
          have cx : wr.cell? ⟨g, q.length + 1, none⟩ = some (.int .i64 x) := by
            rw [hown.cellAt (q.length + 1) (by omega)]
            simp [ints]
          have HCC := Lib.hid (less_c x y)
          have k0 : (0 : Int) ≤ (q.length : Int) := by omega
          have k1 : (q.length : Int) + 1 < (n : Int) := by omega
          have km : (q.length : Int) + 1 < (m : Int) := by
            have : (q ++ [y] ++ p2).length = s.length := by rw [hsp]
            simp only [List.length_append, List.length_cons, List.length_nil] at this
            omega
          have km2 : (q.length : Int) < (m : Int) := by omega
          have kp : (0 : Int) < (q.length : Int) + 1 := by omega
          have kp0 : (0 : Int) ≤ (q.length : Int) + 1 := by omega
          have w1 : IntKind.i64.wrap (q.length : Int) = (q.length : Int) := by rw [IntKind.wrap_i64]; omega
          have w2 : IntKind.i64.wrap ((q.length : Int) + 1) = (q.length : Int) + 1 := by rw [IntKind.wrap_i64]; omega
          have hqn : q.length ≤ 1000 := by omega
          have HF := Lib.hid (And.intro hp2 (And.intro hown hg))
          have HSE := Lib.hid hsp
          have HQL := Lib.hid hql
          clear hp2 hown hg hsp hql ej hnl
          by_cases hcl : iLt x y
          · have hlt0 : decide (x < y) = true := decide_eq_true (show x < y from hcl)
            go_wp2_with fail
            go_quiet (first | (go_at_call 190; refine Calls.quiet_of_same ((HCC.out _).mono (fun e w' h => ⟨h.1, h.2.symm⟩))))
            obtain ⟨wq, hwq⟩ : ∃ wq, wr.drewN nq = wq := ⟨_, rfl⟩
            have gq : wr.grownBy wq none := by rw [← hwq]; exact gb_drewN _ _ _
            rw [hwq]
            have ho1 : wq.drew.ownsRow base 2 1 (.slice (some ⟨g, 0, none⟩) n cf) n (ints (q ++ y :: x :: (p2 ++ rest))) := own_any HF.out.2.1 (gq.trans (gb_drewN wq 1 none))
            have hgq := HF.out.2.2.trans (gb_any (gq.trans (gb_drewN wq 1 none)) (some g))
            have dy : wq.drew.cell? ⟨g, q.length, none⟩ = some (.int .i64 y) := (gq.trans (gb_drewN wq 1 none)).cell cy (by simp)
            have dx : wq.drew.cell? ⟨g, q.length + 1, none⟩ = some (.int .i64 x) := (gq.trans (gb_drewN wq 1 none)).cell cx (by simp)
            have ho0 : wq.ownsRow base 2 1 (.slice (some ⟨g, 0, none⟩) n cf) n (ints (q ++ y :: x :: (p2 ++ rest))) := own_any HF.out.2.1 gq
            have y0 := ho0.frozenAt q.length
            have y1 := ho0.frozenAt (q.length + 1)
            have ey : wq.cell? ⟨g, q.length, none⟩ = some (.int .i64 y) := dy
            have ex : wq.cell? ⟨g, q.length + 1, none⟩ = some (.int .i64 x) := dx
            have z1 := ho1.frozenAt (q.length + 1)
            have z1' := ho1.frozenAt q.length
            have s1 := ho1.stored (q.length + 1) (.int .i64 y)
            have z2 := s1.1.frozenAt q.length
            have s2 := s1.1.stored q.length (.int .i64 x)
            have hset : ((ints (q ++ y :: x :: (p2 ++ rest))).set (q.length + 1) (.int .i64 y)).set q.length (.int .i64 x) = ints (q ++ x :: (y :: p2 ++ rest)) := by simp [ints]
            have HFZ := Lib.hid (show (((wq.drew.setCell ⟨g, q.length + 1, none⟩ (.int .i64 y)).setCell ⟨g, q.length, none⟩ (.int .i64 x))).ownsRow base 2 1 (.slice (some ⟨g, 0, none⟩) n cf) n (ints (q ++ x :: (y :: p2 ++ rest))) ∧ w.grownBy ((wq.drew.setCell ⟨g, q.length + 1, none⟩ (.int .i64 y)).setCell ⟨g, q.length, none⟩ (.int .i64 x)) (some g) from ⟨hset ▸ s2.1, (hgq.trans s1.2).trans s2.2⟩)
            have HP2 := Lib.hid HF.out.1
            clear ho0 ho1 hgq s1 s2 hset HF cy cx gq hwq HCC
            go_wp2_with fail
            go_region
            change Exit.inBlock _ _ _ _ ((wq.drew.setCell ⟨g, q.length + 1, none⟩ (.int .i64 y)).setCell ⟨g, q.length, none⟩ (.int .i64 x))
            generalize (wq.drew.setCell ⟨g, q.length + 1, none⟩ (.int .i64 y)).setCell ⟨g, q.length, none⟩ (.int .i64 x) = W5 at *
            clear ey ex dy dx y0 y1 z1 z1' z2 w1
            go_wp2_with fail
            go_roundw
            case rel => exact ⟨q, y :: p2, by rw [HSE.out]; simp, by go_num, fun z hz => by rcases List.mem_cons.1 hz with rfl | hz; exact hcl; exact HP2.out z hz, HFZ.out.1, HFZ.out.2⟩
            case measure => simp [intOf]
          · have hlt0 : decide (x < y) = false := decide_eq_false (show ¬ x < y from hcl)
            go_wp2_with fail
            go_quiet (first | (go_at_call 190; refine Calls.quiet_of_same ((HCC.out _).mono (fun e w' h => ⟨h.1, h.2.symm⟩))))
            have HFD := Lib.hid (And.intro (own_any HF.out.2.1 (gb_drewN wr nq none)) (HF.out.2.2.trans (gb_drewN wr nq (some g))))
            generalize wr.drewN nq = wq at *
            have HP2 := Lib.hid HF.out.1
            clear HF cy cx HCC w1 w2
            go_wp2_with fail
            go_roundw
            case rel =>
              have hse := HSE.out
              refine ⟨i + 1, by omega, by omega, by omega, by go_num, ⟨q ++ y :: x :: p2, ?_, ?_, ?_, ?_⟩, HFD.out.2⟩
              · have h1 : s.length = (q ++ [y] ++ p2).length := by rw [hse]
                simp only [List.length_append, List.length_cons, List.length_nil] at h1 ⊢
                omega
              · rw [HT.out]
                have h2 : (q ++ y :: x :: p2).Perm (s ++ [x]) := by
                  rw [hse, show q ++ y :: x :: p2 = (q ++ [y]) ++ ([x] ++ p2) by simp, List.append_assoc (q ++ [y]) p2 [x]]
                  exact List.Perm.append_left _ List.perm_append_comm
                exact h2.trans (List.Perm.append_right _ HSP.out)
              · have hss := HSS.out
                rw [hse, List.append_assoc, List.pairwise_append] at hss
                obtain ⟨a1, a2, a3⟩ := hss
                rw [List.singleton_append, List.pairwise_cons] at a2
                rw [List.pairwise_append]
                refine ⟨a1, List.pairwise_cons.2 ⟨fun z hz => ?_, List.pairwise_cons.2 ⟨fun z hz => has _ _ (HP2.out z hz), a2.2⟩⟩, fun z hz u hu => ?_⟩
                · rcases List.mem_cons.1 hz with rfl | hz
                  · exact hcl
                  · exact a2.1 z hz
                · rcases List.mem_cons.1 hu with rfl | hu
                  · exact a3 z hz _ (by simp)
                  · rcases List.mem_cons.1 hu with rfl | hu
                    · exact htr _ _ _ (a3 z hz y (by simp)) hcl
                    · exact a3 z hz u (by simp [hu])
              · have := HFD.out.1
                rw [hrr, show (q ++ y :: x :: p2) ++ rest = q ++ y :: x :: (p2 ++ rest) by simp]
                exact this
            case measure => simp [intOf]; omega
    · have HOI := Lib.hid (And.intro hown hg)
      clear hown hg
      have hbi : (b : Int) ≤ (i : Int) := by omega
      go_wp2_with fail
      refine bodyPost_end (results_none rfl _ _ _) rfl ?_
      refine ⟨rfl, ?_⟩
      by_cases hb0 : i = b
      · subst hb0
        exact ⟨s, hsp, hss, HOI.out⟩
      · have hi1' : i = 1 := by omega
        have hb0' : b = 0 := by omega
        subst hi1' hb0'
        refine ⟨[], by simp, by simp, ?_⟩
        have hs1 : s = l.take 1 := by
          match l, hsp with
          | [], hsp => simpa using hsp
          | z :: r, hsp => simpa using hsp
        rw [List.nil_append, List.drop_zero]
        have := HOI.out
        rw [hs1, List.take_append_drop] at this
        exact this
set_option maxRecDepth 100000 in
theorem bits_len (n : Nat) (w : World) (h : n ≤ 7) : ∃ v : Int, Calls Try.prog 182 #[.int .u64 n] w fun e w' => e = .returned (.int .i64 v) ∧ w = w' := by
  match n, h with
  | 0, _ =>
    refine ⟨0, ?_⟩
    go_enter Try.func182, Try.ntmps182
    go_wp2
    go_ret
    exact ⟨by kernel_rfl, rfl⟩
  | 1, _ =>
    refine ⟨1, ?_⟩
    go_enter Try.func182, Try.ntmps182
    go_wp2
    go_ret
    exact ⟨by kernel_rfl, rfl⟩
  | 2, _ =>
    refine ⟨2, ?_⟩
    go_enter Try.func182, Try.ntmps182
    go_wp2
    go_ret
    exact ⟨by kernel_rfl, rfl⟩
  | 3, _ =>
    refine ⟨2, ?_⟩
    go_enter Try.func182, Try.ntmps182
    go_wp2
    go_ret
    exact ⟨by kernel_rfl, rfl⟩
  | 4, _ =>
    refine ⟨3, ?_⟩
    go_enter Try.func182, Try.ntmps182
    go_wp2
    go_ret
    exact ⟨by kernel_rfl, rfl⟩
  | 5, _ =>
    refine ⟨3, ?_⟩
    go_enter Try.func182, Try.ntmps182
    go_wp2
    go_ret
    exact ⟨by kernel_rfl, rfl⟩
  | 6, _ =>
    refine ⟨3, ?_⟩
    go_enter Try.func182, Try.ntmps182
    go_wp2
    go_ret
    exact ⟨by kernel_rfl, rfl⟩
  | 7, _ =>
    refine ⟨3, ?_⟩
    go_enter Try.func182, Try.ntmps182
    go_wp2
    go_ret
    exact ⟨by kernel_rfl, rfl⟩
set_option maxHeartbeats 1000000 in
theorem sort_c (g n m cf cc base : Nat) (l : List Int) (w : World) (hl : l.length = n) (hm : m ≤ 7) (hmn : m ≤ n) (hn : n ≤ 19) (hbs : base ≤ g) (ho : w.ownsRow base 2 1 (.slice (some ⟨g, 0, none⟩) n cf) n (ints l)) :
    Calls Try.prog 169 #[.slice (some ⟨g, 0, none⟩) m cc] w fun e w' => e = .returned (.tuple #[]) ∧ ∃ s : List Int, s.Perm (l.take m) ∧ s.Pairwise (fun x y => ¬ iLt y x) ∧ w'.ownsRow base 2 1 (.slice (some ⟨g, 0, none⟩) n cf) n (ints (s ++ l.drop m)) ∧ w.grownBy w' (some g) := by
  have HI := Lib.hid (ins_ord g n m m cf cc base l w hl (Nat.le_refl _) hmn (by omega) hbs ho)
  obtain ⟨v, hv⟩ := bits_len m w hm
  have HV := Lib.hid hv
  have hm1 : (m : Int) ≤ 12 := by omega
  have hm0 : (0 : Int) ≤ (m : Int) := by omega
  clear ho hv hl
  go_enter Try.func169, Try.ntmps169
  go_wp2_with fail
  refine HV.out.mono ?_
  rintro e w' ⟨rfl, rfl⟩
  clear HV
  have HP := Lib.hid (show Calls Try.prog 181 #[.slice (some ⟨g, 0, none⟩) m cc, .int .i64 0, .int .i64 (m : Int), .int .i64 v] w fun e w' => e = .returned (.tuple #[]) ∧ ∃ s : List Int, s.Perm (l.take m) ∧ s.Pairwise (fun x y => ¬ iLt y x) ∧ w'.ownsRow base 2 1 (.slice (some ⟨g, 0, none⟩) n cf) n (ints (s ++ l.drop m)) ∧ w.grownBy w' (some g) by
    go_enter Try.func181, Try.ntmps181
    go_wp2_with fail
    go_loopw [1, 2, 3, 8, 9] (fun av bv lv xv yv wr => av = .int .i64 0 ∧ bv = .int .i64 (m : Int) ∧ lv = .int .i64 v ∧ xv = .bool true ∧ yv = .bool true ∧ w = wr) (fun _ _ _ _ _ _ => 0)
    case atStart => exact ⟨rfl, rfl, rfl, rfl, rfl, rfl⟩
    case round =>
      obtain ⟨rfl, rfl, rfl, rfl, rfl, rfl⟩ := hrel
      go_wp2_with fail
      refine HI.out.mono ?_
      rintro e w1 ⟨rfl, s, hp, hs, ho, hg⟩
      have HF := Lib.hid (And.intro hp (And.intro hs (And.intro ho hg)))
      clear hp hs ho hg
      go_wp2_with fail
      refine bodyPost_ret (results_none rfl _ _ _) rfl ?_
      exact ⟨rfl, s, HF.out⟩)
  go_wp2_with fail
  refine HP.out.mono ?_
  rintro e w1 ⟨rfl, h⟩
  go_wp2_with fail
  refine bodyPost_end (results_none rfl _ _ _) rfl ?_
  exact ⟨rfl, h⟩

end Go.Proofs.Ytmemclcoegmjjaa.sortO
