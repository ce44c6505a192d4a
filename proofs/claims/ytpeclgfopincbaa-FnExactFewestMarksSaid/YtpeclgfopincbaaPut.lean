/- A number put to its place among rising ones. -/
import Derived.Test.YtpeclgfopincbaaRows
import Derived.Test.YtpeclgfopincbaaSlc
import Derived.Test.YtpeclgfopincbaaSmall
import Derived.Test.YtpeclgfopincbaaListI
import Derived.Test.YtpeclgfopincbaaMarks
import Derived.WalkKit
import Derived.ProofKit
import Derived.OpenShut
import Derived.ShutString
import Derived.ChangeOld
import Derived.Below
import Derived.Lib.Hide
import Derived.BigQuiet
import Derived.Deep.QuietTactic
import Derived.WalkLawsBesides
import Derived.Outline
import Derived.Deep.QuietTactic
import Derived.BigQuiet
import Derived.Deep.LoopGhost
namespace Go.Proofs.Ytpeclgfopincbaa.put
open Go.ChangeShapes Go.WideShapes Go.ChangeAt Go.RowKit
open Go.ChangeMaps (open_string shut_string)
set_option linter.unusedVariables false
open Go Go.RowKit
open Go.Proofs.Ytpeclgfopincbaa.slc Go.Proofs.Ytpeclgfopincbaa.small Go.Proofs.Ytpeclgfopincbaa.listI Go.Proofs.Ytpeclgfopincbaa.marks

/-- n put to its place, once. -/
def put (n : Int) : List Int → List Int
  | [] => [n]
  | x :: t => if x < n then x :: put n t else if x = n then x :: t else n :: x :: t
theorem put_len (n : Int) (l : List Int) : (put n l).length ≤ l.length + 1 := by
  induction l with
  | nil => simp [put]
  | cons x t ih =>
    unfold put
    split
    · simp; exact ih
    · split <;> simp
theorem put_mem (n y : Int) (l : List Int) : y ∈ put n l ↔ y = n ∨ y ∈ l := by
  induction l with
  | nil => simp [put]
  | cons x t ih =>
    unfold put
    split
    · simp only [List.mem_cons, ih]
      constructor
      · rintro (h | h | h)
        · exact .inr (.inl h)
        · exact .inl h
        · exact .inr (.inr h)
      · rintro (h | h | h)
        · exact .inr (.inl h)
        · exact .inl h
        · exact .inr (.inr h)
    · split
      · rename_i h1 h2
        subst h2
        simp only [List.mem_cons]
        constructor
        · rintro (h | h)
          · exact .inl h
          · exact .inr (.inr h)
        · rintro (h | h | h)
          · exact .inl h
          · exact .inl h
          · exact .inr h
      · simp only [List.mem_cons]
theorem put_rises (n : Int) (l : List Int) (h : l.Pairwise (· < ·)) : (put n l).Pairwise (· < ·) := by
  induction l with
  | nil => simp [put]
  | cons x t ih =>
    obtain ⟨h1, h2⟩ := List.pairwise_cons.1 h
    unfold put
    split
    · rename_i hx
      refine List.pairwise_cons.2 ⟨fun y hy => ?_, ih h2⟩
      rcases (put_mem n y t).1 hy with rfl | hy
      · exact hx
      · exact h1 y hy
    · split
      · exact h
      · rename_i a b
        refine List.pairwise_cons.2 ⟨fun y hy => ?_, h⟩
        rcases List.mem_cons.1 hy with rfl | hy
        · omega
        · have := h1 y hy; omega
/-- Behind k numbers: what stands, and what is still to come. -/
def rest (n : Int) (d : Bool) (l : List Int) : List Int := if d then l else put n l
theorem rest_keep {n x : Int} {d : Bool} {t out : List Int} (h : d = true ∨ x < n) : out ++ rest n d (x :: t) = (out ++ [x]) ++ rest n d t := by
  cases d
  · have hx : x < n := by rcases h with h | h
                          · cases h
                          · exact h
    simp [rest, put, hx]
  · simp [rest]
theorem rest_here {n x : Int} {t out : List Int} (h : ¬ x < n) (h2 : ¬ n < x) : out ++ rest n false (x :: t) = (out ++ [x]) ++ rest n true t := by
  have e : x = n := by omega
  subst e
  simp [rest, put]
theorem rest_put {n x : Int} {t out : List Int} (h2 : n < x) : out ++ rest n false (x :: t) = ((out ++ [n]) ++ [x]) ++ rest n true t := by
  have h1 : ¬ x < n := by omega
  have h3 : ¬ x = n := by omega
  simp [rest, put, h1, h3]

set_option maxHeartbeats 1000000 in
set_option maxRecDepth 100000 in
theorem put_c (A : Option Addr) (c B : Nat) (l : List Int) (n : Int) (w : World) (hl : l.length ≤ 65536) (hr : Rd w B A l.length (fun j => (ints l).getD j undef)) (hB : B ≤ w.heap.size) :
    Calls Try.prog 127 #[.slice A l.length c, .int .i64 n] w fun e w' => ∃ A' c', e = .returned (.slice A' (put n l).length c') ∧ w'.ownsRow w.heap.size 2 1 (.slice A' (put n l).length c') (put n l).length (ints (put n l)) ∧ w.grownBy w' none := by
  obtain ⟨i0, hi0, hz0, hz1, hz2⟩ := info_parts info64
  go_enter Try.func127, Try.ntmps127
  go_wp2_with fail
  go_loopw [5, 6, 7] (fun v dn i wr => ∃ (k : Nat) (d : Bool) (out : List Int), k ≤ l.length ∧ i = .int .i64 k ∧ dn = .bool d ∧ out.length ≤ k + 1 ∧ (d = true ∨ out.length ≤ k) ∧ out ++ rest n d (l.drop k) = put n l ∧ wr.ownsRow w.heap.size 2 1 v out.length (ints out) ∧ w.grownBy wr none) (fun _ _ i _ => l.length - (intOf i).toNat)
  case atStart => exact ⟨0, false, [], Nat.zero_le _, rfl, rfl, by simp, .inr (by simp), rfl, World.ownsRow_lit w #[] 0 (Nat.le_refl _) (Nat.zero_le _) rfl, World.grownBy_alloc _ _ _⟩
  case round =>
    obtain ⟨k, d, out, hk, rfl, rfl, hol, hdo, hout, hown, hg⟩ := hrel
    have HDO := Lib.hid hdo
    clear hdo
    by_cases hlt : k < l.length
    · obtain ⟨ad, rfl, _, hc⟩ := (hr.kept0 hg hB).at_ hlt
      rw [ints_getD l k hlt] at hc
      rw [List.drop_eq_getElem_cons hlt] at hout
      have hbs := Nat.le_trans hg.size (show wr.heap.size ≤ (wr.alloc (.cells #[.int .i64 l[k]] 2)).heap.size by simp)
      by_cases hkeep : d = true ∨ l[k] < n
      · rw [rest_keep hkeep] at hout
        have HO := Lib.hid hout
        clear hout
        cases d
        · have hx : l[k] < n := by rcases hkeep with h | h
                                   · cases h
                                   · exact h
          clear hkeep
          go_wp2_with (at_builtin; refine wpList_append_own _ rfl _ _ 45 rfl w.heap.size 2 i0 (.int .i64 0) 1 8 Try.underlying45 hi0 hz0 hz1 hz2 rfl (by decide) _ _ _ rfl (hown.alloc _) ⟨wr.heap.size, 0, none⟩ 1 1 [.int .i64 l[k]] rfl rfl (cell_one_new _ _ _) (int_one _ _) (by unfold maxLen; omega) (by omega) hbs ?_; intro v' w1 hown' hgrow _)
          go_roundw
          case rel => exact ⟨k + 1, false, out ++ [l[k]], by omega, by go_num, rfl, by simp; omega, .inr (by have := HDO.out.resolve_left (by simp); simp; omega), HO.out, by rw [List.length_append, ← ints_snoc]; exact hown', gb_own (hg.trans (World.grownBy_alloc _ _ _)) (hown.alloc _) (Nat.le_refl _) hgrow⟩
          case measure => simp [intOf]; omega
        · clear hkeep
          go_wp2_with (at_builtin; refine wpList_append_own _ rfl _ _ 45 rfl w.heap.size 2 i0 (.int .i64 0) 1 8 Try.underlying45 hi0 hz0 hz1 hz2 rfl (by decide) _ _ _ rfl (hown.alloc _) ⟨wr.heap.size, 0, none⟩ 1 1 [.int .i64 l[k]] rfl rfl (cell_one_new _ _ _) (int_one _ _) (by unfold maxLen; omega) (by omega) hbs ?_; intro v' w1 hown' hgrow _)
          go_roundw
          case rel => exact ⟨k + 1, true, out ++ [l[k]], by omega, by go_num, rfl, by simp; omega, .inl rfl, HO.out, by rw [List.length_append, ← ints_snoc]; exact hown', gb_own (hg.trans (World.grownBy_alloc _ _ _)) (hown.alloc _) (Nat.le_refl _) hgrow⟩
          case measure => simp [intOf]; omega
      · obtain rfl : d = false := by
          cases d
          · rfl
          · exact absurd (.inl rfl) hkeep
        have hx : n ≤ l[k] := by
          have : ¬ l[k] < n := fun h => hkeep (.inr h)
          omega
        clear hkeep
        by_cases hgt : n < l[k]
        · rw [rest_put hgt] at hout
          have HO := Lib.hid hout
          clear hout
          have hbn := Nat.le_trans hg.size (show wr.heap.size ≤ (wr.alloc (.cells #[.int .i64 n] 2)).heap.size by simp)
          go_wp2_with (first
            | (at_builtin; refine wpList_append_own (o := ⟨some 34, _, _, _, _, _⟩) _ rfl _ _ 45 rfl w.heap.size 2 i0 (.int .i64 0) 1 8 Try.underlying45 hi0 hz0 hz1 hz2 rfl (by decide) _ _ _ rfl (hown.alloc _) ⟨wr.heap.size, 0, none⟩ 1 1 [.int .i64 n] rfl rfl (cell_one_new _ _ _) (int_one _ _) (by unfold maxLen; omega) (by omega) hbn ?_; intro v1 w1 hown1 hgrow1 _
               have hg1 := gb_own (hg.trans (World.grownBy_alloc _ _ _)) (hown.alloc _) (Nat.le_refl _) hgrow1
               have hc1 : w1.cell? (ad.add k) = some (.int .i64 l[k]) := by
                 obtain ⟨ad', e', _, hc'⟩ := (hr.kept0 hg1 hB).at_ hlt
                 injection e' with e'
                 subst e'
                 rw [hc', ints_getD l k hlt]
               have hb1 := Nat.le_trans hg1.size (show w1.heap.size ≤ (w1.alloc (.cells #[.int .i64 l[k]] 2)).heap.size by simp))
            | (at_builtin; refine wpList_append_own (o := ⟨some 41, _, _, _, _, _⟩) _ rfl _ _ 45 rfl w.heap.size 2 i0 (.int .i64 0) 1 8 Try.underlying45 hi0 hz0 hz1 hz2 rfl (by decide) _ _ _ rfl (hown1.alloc _) ⟨w1.heap.size, 0, none⟩ 1 1 [.int .i64 l[k]] rfl rfl (cell_one_new _ _ _) (int_one _ _) (by unfold maxLen; omega) (by omega) hb1 ?_; intro v2 w2 hown2 hgrow2 _))
          go_roundw
          case rel =>
            refine ⟨k + 1, true, (out ++ [n]) ++ [l[k]], by omega, by go_num, rfl, by have := HDO.out.resolve_left (by simp); simp; omega, .inl rfl, HO.out, ?_, gb_own (hg1.trans (World.grownBy_alloc _ _ _)) (hown1.alloc _) (Nat.le_refl _) hgrow2⟩
            rw [List.length_append, List.length_append, ← ints_snoc, ← ints_snoc]
            exact hown2
          case measure => simp [intOf]; omega
        · rw [rest_here (by omega) hgt] at hout
          have HO := Lib.hid hout
          have hle : l[k] ≤ n := by omega
          clear hout hgt
          go_wp2_with (at_builtin; refine wpList_append_own _ rfl _ _ 45 rfl w.heap.size 2 i0 (.int .i64 0) 1 8 Try.underlying45 hi0 hz0 hz1 hz2 rfl (by decide) _ _ _ rfl (hown.alloc _) ⟨wr.heap.size, 0, none⟩ 1 1 [.int .i64 l[k]] rfl rfl (cell_one_new _ _ _) (int_one _ _) (by unfold maxLen; omega) (by omega) hbs ?_; intro v' w1 hown' hgrow _)
          go_roundw
          case rel => exact ⟨k + 1, true, out ++ [l[k]], by omega, by go_num, rfl, by simp; omega, .inl rfl, HO.out, by rw [List.length_append, ← ints_snoc]; exact hown', gb_own (hg.trans (World.grownBy_alloc _ _ _)) (hown.alloc _) (Nat.le_refl _) hgrow⟩
          case measure => simp [intOf]; omega
    · obtain rfl : k = l.length := by omega
      rw [List.drop_length] at hout
      cases d
      · have hout' : out ++ [n] = put n l := hout
        have HO := Lib.hid hout'
        clear hout hout'
        have hbn := Nat.le_trans hg.size (show wr.heap.size ≤ (wr.alloc (.cells #[.int .i64 n] 2)).heap.size by simp)
        go_wp2_with (at_builtin; refine wpList_append_own _ rfl _ _ 45 rfl w.heap.size 2 i0 (.int .i64 0) 1 8 Try.underlying45 hi0 hz0 hz1 hz2 rfl (by decide) _ _ _ rfl (hown.alloc _) ⟨wr.heap.size, 0, none⟩ 1 1 [.int .i64 n] rfl rfl (cell_one_new _ _ _) (int_one _ _) (by unfold maxLen; omega) (by omega) hbn ?_; intro v' w1 hown' hgrow _)
        obtain ⟨A', c', rfl⟩ := own_form hown'
        go_wp2
        go_ret
        rw [← HO.out, List.length_append, ← ints_snoc]
        exact ⟨_, _, rfl, hown', gb_own (hg.trans (World.grownBy_alloc _ _ _)) (hown.alloc _) (Nat.le_refl _) hgrow⟩
      · have hout' : out = put n l := by simpa [rest] using hout
        subst hout'
        clear hout
        obtain ⟨A', c', rfl⟩ := own_form hown
        go_wp2
        go_ret
        exact ⟨_, _, rfl, hown, hg⟩

end Go.Proofs.Ytpeclgfopincbaa.put
