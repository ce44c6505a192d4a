/- The differences of marks, by both. -/
import Derived.Test.YtpmjheofjmdfeaaRows
import Derived.Test.YtpmjheofjmdfeaaSlc
import Derived.Test.YtpmjheofjmdfeaaSmall
import Derived.Test.YtpmjheofjmdfeaaListI
import Derived.Test.YtpmjheofjmdfeaaMarks
import Derived.Test.YtpmjheofjmdfeaaPut
import Derived.Test.YtpmjheofjmdfeaaDiff
import Derived.Test.YtpmjheofjmdfeaaISet
import Derived.Test.YtpmjheofjmdfeaaISize
import Derived.Test.YtpmjheofjmdfeaaKeys
import Derived.WalkKit
import Derived.ProofKit
import Derived.OpenShut
import Derived.ShutString
import Derived.ChangeOld
import Derived.Below
import Derived.Lib.Hide
import Derived.BigQuiet
import Derived.Deep.QuietTactic
import Derived.WalkLawsBesides
import Derived.Outline
import Derived.Deep.LoopGhost
import Derived.Maps.OwnOps
import Derived.Maps.OwnSet
import Derived.Maps.Views
import Derived.MapViews
namespace Go.Proofs.Ytpmjheofjmdfeaa.differ
open Go.ChangeShapes Go.WideShapes Go.ChangeAt Go.RowKit
open Go.ChangeMaps (open_string shut_string)
set_option linter.unusedVariables false
open Go Go.RowKit Go.Maps
open Go.Proofs.Ytpmjheofjmdfeaa.slc Go.Proofs.Ytpmjheofjmdfeaa.small Go.Proofs.Ytpmjheofjmdfeaa.listI Go.Proofs.Ytpmjheofjmdfeaa.marks Go.Proofs.Ytpmjheofjmdfeaa.put Go.Proofs.Ytpmjheofjmdfeaa.diff Go.Proofs.Ytpmjheofjmdfeaa.iSet Go.Proofs.Ytpmjheofjmdfeaa.iSize Go.Proofs.Ytpmjheofjmdfeaa.keys

/-- The keys of such a set, sorted, are the rising list. -/
theorem keys_dl {w : World} {b n i k : Nat} {xs : List Int} (h : ISet w b n (pd xs i k)) :
    ∃ D : DataW Unit, w.ownsMap Try.prog 2 (plainElem Try.prog 4) b n D ∧ size D = (dl xs i k).length ∧ ∀ ss : List Int, ss.Perm (Go.intKeys D) → ss.mergeSort (fun x y => decide (x ≤ y)) = dl xs i k := by
  obtain ⟨D, ho, hm, hD, hS⟩ := h
  have hkey : ∀ x ∈ (pd xs i k).map (fun x => Lit.int .i64 x), WideAt.IsKeyLit x := fun x hx => by obtain ⟨y, _, rfl⟩ := List.mem_map.1 hx; exact trivial
  refine ⟨D, ho, ?_, fun ss hp => ?_⟩
  · rw [hS, size_setOf _ _ hkey]
    exact both (pd xs i k) [] [] rfl (fun _ => Iff.rfl) List.Pairwise.nil
  · have hr := dl_rises xs i k
    have hnd : (dl xs i k).Nodup := hr.imp fun h => by omega
    have hmem : ∀ x, x ∈ dl xs i k ↔ has D (.int .i64 x) = true := fun x => by
      rw [hS, has_setOf _ _ _ hkey, any_int, dl_mem]; simp
    have hcl : CollectedI D (fun _ => false) (dl xs i k) := ⟨hnd, fun x => by rw [hmem x]; simp⟩
    have hp2 : ss.Perm (dl xs i k) := hp.trans (hcl.perm ho lawI Try.underlying2 (fun _ => rfl)).symm
    refine List.Perm.eq_of_pairwise (le := fun a b => decide (a ≤ b) = true) (fun a b _ _ h1 h2 => ?_) (List.pairwise_mergeSort (fun a b c h1 h2 => ?_) (fun a b => ?_) ss) (hr.imp fun h => ?_) ((List.mergeSort_perm _ _).trans hp2)
    · simp only [decide_eq_true_eq] at h1 h2; omega
    · simp only [decide_eq_true_eq] at *; omega
    · simp only [Bool.or_eq_true, decide_eq_true_eq]; omega
    · simp only [decide_eq_true_eq]; omega

/-- The answer's list. -/
def dR (xs : List Int) : List Int := if mB xs then dl xs xs.length 0 else []
theorem dR_yes {xs : List Int} (h : mB xs = true) : dR xs = dl xs xs.length 0 := by unfold dR; rw [if_pos h]
theorem dR_no {xs : List Int} (h : mB xs = false) : dR xs = [] := by unfold dR; rw [h]; rfl
theorem dl_len (xs : List Int) (i k : Nat) : (dl xs i k).length ≤ (pd xs i k).length := by
  have key : ∀ (l acc : List Int), (l.foldl (fun l d => put d l) acc).length ≤ acc.length + l.length := by
    intro l
    induction l with
    | nil => intro acc; simp
    | cons d t ih => intro acc; have a := ih (put d acc); have b := put_len d acc; simp only [List.foldl_cons, List.length_cons] at *; omega
  have h := key (pd xs i k) []
  simpa [dl] using h
theorem pd_len (xs : List Int) (i k : Nat) : (pd xs i k).length = (pd xs i 0).length + k := by
  induction k with
  | zero => rfl
  | succ k ih => rw [pd_next, List.length_append, ih]; rfl
theorem pd_len0 (xs : List Int) (i : Nat) (h : i ≤ 16) : (pd xs i 0).length ≤ i * 17 := by
  induction i with
  | zero => simp [pd]
  | succ i ih => rw [← pd_row, pd_len]; have := ih (by omega); omega
theorem dR_le (xs : List Int) : (dR xs).length ≤ 65536 := by
  unfold dR
  split
  · rename_i h
    have h2 := (mB_yes h).2.1
    have a := dl_len xs xs.length 0
    have b := pd_len0 xs xs.length h2
    omega
  · exact Nat.zero_le _
theorem own_none (w : World) (t : TypeId) (xs : List Int) (h : xs = []) : w.ownsRow w.heap.size t 1 (.slice none xs.length 0) xs.length (ints xs) := by
  subst h
  exact World.ownsRow_nil _ _ _ _
/-- A function answers so. -/
def Gvs (F : Nat) (xs ys : List Int) (ok : Bool) : Prop :=
  ∀ (A : Option Addr) (c B : Nat) (w : World), xs.length ≤ c → c ≤ maxLen → Rd w B A xs.length (fun j => (ints xs).getD j undef) → B ≤ w.heap.size →
    Calls Try.prog F #[.slice A xs.length c] w fun e w' => ∃ A' c', e = .returned (.tuple #[.slice A' ys.length c', .bool ok]) ∧ w'.ownsRow w.heap.size 2 1 (.slice A' ys.length c') ys.length (ints ys) ∧ w.grownBy w' none

set_option maxHeartbeats 400000 in
set_option maxRecDepth 100000 in
theorem marks_spec : True := trivial

set_option maxHeartbeats 400000 in
set_option maxRecDepth 100000 in
theorem spec_c : True := trivial

set_option maxHeartbeats 1000000 in
set_option maxRecDepth 100000 in
theorem impl_c (xs : List Int) : Gvs 17 xs (dR xs) (mB xs) := by
  intro A c B w hc hcm hr hB
  unfold maxLen at hcm
  by_cases hv : mB xs = true
  · have hy := dR_yes hv
    have HY := Lib.hid hy
    have HV := Lib.hid hv
    clear hy hv
    go_enter Try.func17, Try.ntmps17
    go_wp2_with fail
    refine (are_impl _ _ _ _ _ (by omega) hr).mono ?_
    rintro e w1 ⟨rfl, rfl⟩
    rw [HV.out]
    go_wp2_with fail
    refine (set_impl _ _ _ _ _ HV.out hc hcm hr hB).mono ?_
    rintro e w2 ⟨b, n, rfl, hset, hn, hg2⟩
    obtain ⟨M, ho, hsz, hper⟩ := keys_dl hset
    have hb272 := Nat.le_trans (World.ownsMap.size_le ho) hn
    have HP := Lib.hid hper
    have HSZ := Lib.hid hsz
    have HO := Lib.hid ho
    clear hset ho hsz hper
    go_wp2_with fail
    refine (keys_c _ _).mono ?_
    rintro e w3 ⟨rfl, rfl⟩
    go_wp2_with fail
    refine (sorted_c b n M _ w2 HO.out (by unfold maxLen; omega) (by omega)).mono ?_
    rintro e w4 ⟨v, ss, rfl, hS, hrow, _, hb⟩
    have hl := HP.out ss hS
    have hlen : ss.length = (dl xs xs.length 0).length := by rw [← hl, List.length_mergeSort]
    rw [hl, hlen] at hrow
    obtain ⟨A', c', rfl⟩ := own_form hrow
    clear hlen hl
    go_wp2_with fail
    go_ret2
    have g3 := (hg2.trans (World.grownBy_alloc w2 (.cells #[.map (some b)] 134) none)).trans (gb_of_below hb)
    exact ⟨A', c', by rw [HY.out, HV.out]; rfl, by rw [HY.out]; exact own_mono hrow (Nat.le_trans hg2.size (World.grownBy_alloc w2 (.cells #[.map (some b)] 134) none).size), g3⟩
  · have hv' : mB xs = false := by simpa using hv
    clear hv
    have hy := dR_no hv'
    have HY := Lib.hid hy
    have HV := Lib.hid hv'
    clear hy hv'
    go_enter Try.func17, Try.ntmps17
    go_wp2_with fail
    refine (are_impl _ _ _ _ _ (by omega) hr).mono ?_
    rintro e w1 ⟨rfl, rfl⟩
    rw [HV.out]
    go_wp2_with fail
    go_ret2
    exact ⟨none, 0, by rw [HY.out, HV.out]; rfl, own_none w _ _ HY.out, World.grownBy.refl _ _⟩

end Go.Proofs.Ytpmjheofjmdfeaa.differ
