/- Walks over the directions of the sky: which directions, and the sum of their powers. -/
import Derived.Test.YtpeclgfopincbaaRows
import Derived.Test.YtpeclgfopincbaaSlc
import Derived.Test.YtpeclgfopincbaaSmall
import Derived.Test.YtpeclgfopincbaaOpens
import Derived.Test.YtpeclgfopincbaaFloatAll
import Derived.Test.YtpeclgfopincbaaFWalk
import Derived.Test.YtpeclgfopincbaaFinWalk
import Derived.Test.YtpeclgfopincbaaRoot
import Derived.Test.YtpeclgfopincbaaFlAll
import Derived.Test.YtpeclgfopincbaaPhasor
import Derived.Test.YtpeclgfopincbaaListC
import Derived.Test.YtpeclgfopincbaaSteerNum
import Derived.Test.YtpeclgfopincbaaSineIn
import Derived.Test.YtpeclgfopincbaaPolyNum
import Derived.Test.YtpeclgfopincbaaPolyW
import Derived.Test.YtpeclgfopincbaaGAll
import Derived.Test.YtpeclgfopincbaaPowW
import Derived.WalkKit
import Derived.ProofKit
import Derived.OpenShut
import Derived.ShutString
import Derived.ChangeOld
import Derived.Below
import Derived.Lib.Hide
import Derived.BigQuiet
import Derived.Deep.QuietTactic
import Derived.WalkLawsBesides
import Derived.Outline
namespace Go.Proofs.Ytpeclgfopincbaa.skyNum
open Go.ChangeShapes Go.WideShapes Go.ChangeAt Go.RowKit
open Go.ChangeMaps (open_string shut_string)
set_option linter.unusedVariables false
open Go Ieee Go.RowKit
open Go.Proofs.Ytpeclgfopincbaa.float2 Go.Proofs.Ytpeclgfopincbaa.float3 Go.Proofs.Ytpeclgfopincbaa.listC Go.Proofs.Ytpeclgfopincbaa.small Go.Proofs.Ytpeclgfopincbaa.floats Go.Proofs.Ytpeclgfopincbaa.round Go.Proofs.Ytpeclgfopincbaa.values Go.Proofs.Ytpeclgfopincbaa.conv Go.Proofs.Ytpeclgfopincbaa.phase Go.Proofs.Ytpeclgfopincbaa.phasor Go.Proofs.Ytpeclgfopincbaa.sineIn Go.Proofs.Ytpeclgfopincbaa.polyNum Go.Proofs.Ytpeclgfopincbaa.gNum Go.Proofs.Ytpeclgfopincbaa.rq Go.Proofs.Ytpeclgfopincbaa.powW

/-- The directions that c takes, among the first i rows of L and the first j of the next row. -/
def rowc (L : List Int) (c : Int → Int → Bool) (v : Int) (j : Nat) : List (Int × Int) := ((L.take j).filter fun u => c u v).map fun u => (u, v)
def rows (L : List Int) (c : Int → Int → Bool) (K : List Int) : List (Int × Int) := K.flatMap fun v => rowc L c v L.length
def wlk (L : List Int) (c : Int → Int → Bool) (i j : Nat) : List (Int × Int) := rows L c (L.take i) ++ rowc L c (L.getD i 0) j
theorem rows_app (L : List Int) (c : Int → Int → Bool) (K M : List Int) : rows L c (K ++ M) = rows L c K ++ rows L c M := List.flatMap_append
theorem rows_one (L : List Int) (c : Int → Int → Bool) (v : Int) : rows L c [v] = rowc L c v L.length := by simp [rows]
theorem rowc_zero (L : List Int) (c : Int → Int → Bool) (v : Int) : rowc L c v 0 = [] := by simp [rowc]
theorem get_at (L : List Int) (i : Nat) (h : i < L.length) : L.getD i 0 = L[i] := by simp [List.getD, h]
theorem wlk_zero (L : List Int) (c : Int → Int → Bool) : wlk L c 0 0 = [] := by
  unfold wlk
  rw [rowc_zero]
  rfl
theorem wlk_j (L : List Int) (c : Int → Int → Bool) (i j : Nat) (hj : j < L.length) : wlk L c i (j + 1) = wlk L c i j ++ (if c (L.getD j 0) (L.getD i 0) = true then [(L.getD j 0, L.getD i 0)] else []) := by
  unfold wlk rowc
  rw [List.take_succ_eq_append_getElem hj, List.filter_append, List.map_append, ← List.append_assoc, get_at L j hj]
  congr 1
  generalize L.getD i 0 = v
  by_cases h : c L[j] v = true
  · simp [h]
  · simp [h]
theorem wlk_i (L : List Int) (c : Int → Int → Bool) (i : Nat) (hi : i < L.length) : wlk L c (i + 1) 0 = wlk L c i L.length := by
  unfold wlk
  rw [List.take_succ_eq_append_getElem hi, rows_app, rows_one, rowc_zero, List.append_nil, get_at L i hi]
theorem wlk_len (L : List Int) (c : Int → Int → Bool) (i j : Nat) (hi : i < L.length) : (wlk L c i j).length ≤ (rows L c L).length := by
  have e : L = L.take i ++ ([L[i]] ++ L.drop (i + 1)) := by
    rw [List.singleton_append, ← List.drop_eq_getElem_cons hi, List.take_append_drop]
  have e2 : rows L c L = rows L c (L.take i) ++ (rowc L c L[i] L.length ++ rows L c (L.drop (i + 1))) := by
    rw [← rows_one, ← rows_app, ← rows_app, ← e]
  unfold wlk
  rw [e2, List.length_append, List.length_append, List.length_append, get_at L i hi]
  have : (rowc L c L[i] j).length ≤ (rowc L c L[i] L.length).length := by
    unfold rowc
    rw [List.length_map, List.length_map, List.take_length]
    exact (List.Sublist.filter _ (List.take_sublist j L)).length_le
  omega
theorem wlk_end (L : List Int) (c : Int → Int → Bool) : wlk L c L.length 0 = rows L c L := by simp [wlk, rowc]

def all : List Int := (List.range 129).map fun (k : Nat) => (k : Int) - 64
def us (s : Nat) : List Int := (List.range (2 * (64 / s) + 1)).map fun (i : Nat) => (i : Int) * s - ((64 / s * s : Nat) : Int)
def cI (u v : Int) : Bool := dirB u v
def cL (s : Nat) (u v : Int) : Bool := decide (u.tmod s = 0) && decide (v.tmod s = 0) && decide (u * u + v * v ≤ 4096)
theorem all_us : ∀ s : Nat, s < 65 → 16 ≤ s → (all.filter fun u => decide (u.tmod s = 0)) = us s := by decide +kernel
theorem few : ∀ s : Nat, s < 65 → 16 ≤ s → (rows (us s) cI (us s)).length ≤ 49 := by decide +kernel
theorem flat_if {q : Int → Bool} {f : Int → List (Int × Int)} : ∀ K : List Int, (K.flatMap fun v => if q v = true then f v else []) = (K.filter q).flatMap f
  | [] => rfl
  | v :: K => by
    have ih := flat_if (q := q) (f := f) K
    by_cases h : q v = true
    · simp [h, ← ih]
    · simp [h, ← ih]
theorem fm_congr {f g : Int → List (Int × Int)} : ∀ K : List Int, (∀ v ∈ K, f v = g v) → K.flatMap f = K.flatMap g
  | [], _ => rfl
  | v :: K, h => by
    rw [List.flatMap_cons, List.flatMap_cons, h v (by simp), fm_congr K fun u hu => h u (by simp [hu])]
theorem all_bd : ∀ u ∈ all, -64 ≤ u ∧ u ≤ 64 := by decide +kernel
theorem same (s : Nat) (h0 : 16 ≤ s) (h1 : s < 65) : rows all (cL s) all = rows (us s) cI (us s) := by
  have hu := all_us s h1 h0
  unfold rows
  have e1 : (all.flatMap fun v => rowc all (cL s) v all.length) = all.flatMap fun v => if decide (v.tmod s = 0) = true then rowc (us s) cI v (us s).length else [] := by
    refine fm_congr all fun v hv => ?_
    obtain ⟨v0, v1⟩ := all_bd v hv
    unfold rowc
    rw [List.take_length, List.take_length, ← hu]
    by_cases hq : v.tmod s = 0
    · rw [if_pos (by simp [hq]), List.filter_filter]
      congr 1
      refine List.filter_congr fun u hu' => ?_
      obtain ⟨u0, u1⟩ := all_bd u hu'
      have hd : dirB u v = decide (u * u + v * v ≤ 4096) := by
        unfold dirB
        apply decide_eq_decide.2
        omega
      simp [cL, cI, hq, hd, Bool.and_comm]
    · rw [if_neg (by simp [hq])]
      simp [cL, hq]
  rw [e1, flat_if, hu]

/-! ## the sum -/
def stp (P : Int → Int → Nat) (a : Nat × Nat) (d : Int × Int) : Nat × Nat := (bv .add a.1 (wd (P d.1 d.2)), a.2 + 1)
def sky (P : Int → Int → Nat) (L : List (Int × Int)) : Nat × Nat := L.foldl (stp P) (0, 0)
theorem sky_snoc (P : Int → Int → Nat) (L : List (Int × Int)) (d : Int × Int) : sky P (L ++ [d]) = stp P (sky P L) d := by simp [sky]
theorem sky_len (P : Int → Int → Nat) (L : List (Int × Int)) : (sky P L).2 = L.length := by
  have h : ∀ (L : List (Int × Int)) (a : Nat × Nat), (L.foldl (stp P) a).2 = a.2 + L.length := by
    intro L
    induction L with
    | nil => intro a; rfl
    | cons d L ih => intro a; rw [List.foldl_cons, ih]; simp [stp]; omega
  rw [sky, h]
  simp
theorem zero_bd : Bd 0 (D64 + 47) := by
  refine ⟨?_, ?_⟩
  · unfold values.FinW; decide +kernel
  · have : V double 0 = 0 := by decide +kernel
    rw [this]; exact Nat.zero_le _
theorem fold_bd {P : Int → Int → Nat} (hP : ∀ u v, dirB u v = true → Bs (P u v) 47) : ∀ (K : List (Int × Int)) (a : Nat × Nat) (e : Nat), Bd a.1 (D64 + (47 + e)) → e + K.length ≤ 150 → (∀ d ∈ K, dirB d.1 d.2 = true) → Bd (K.foldl (stp P) a).1 (D64 + (47 + (e + K.length)))
  | [], a, e, h, _, _ => h
  | d :: K, a, e, h, hk, hd => by
    have hl : (d :: K).length = K.length + 1 := rfl
    have h2 := (wd_in (hP d.1 d.2 (hd d (by simp))) (by omega)).2
    have h3 := (add64 h (h2.mono (by omega)) (by omega)).2.1
    have := fold_bd hP K (stp P a d) (e + 1) h3 (by omega) (fun x hx => hd x (by simp [hx]))
    rw [List.foldl_cons, hl, show e + (K.length + 1) = e + 1 + K.length by omega]
    exact this
theorem sky_bd {P : Int → Int → Nat} (hP : ∀ u v, dirB u v = true → Bs (P u v) 47) (K : List (Int × Int)) (hk : K.length ≤ 100) (hK : ∀ d ∈ K, dirB d.1 d.2 = true) : Bd (sky P K).1 (D64 + (47 + K.length)) := by
  have := fold_bd hP K (0, 0) 0 zero_bd (by omega) hK
  rwa [Nat.zero_add] at this
theorem sky_next {P : Int → Int → Nat} (hP : ∀ u v, dirB u v = true → Bs (P u v) 47) (K : List (Int × Int)) (u v : Int) (hk : K.length ≤ 100) (hK : ∀ d ∈ K, dirB d.1 d.2 = true) (hd : dirB u v = true) :
    floatToFloatBits .f32 (P u v) .f64 = some (wd (P u v)) ∧ floatBits .add .f64 (sky P K).1 (wd (P u v)) = some (sky P (K ++ [(u, v)])).1 ∧ (sky P (K ++ [(u, v)])).2 = (sky P K).2 + 1 := by
  have h1 := sky_bd hP K hk hK
  obtain ⟨e1, h2⟩ := wd_in (hP u v hd) (by omega)
  rw [sky_snoc]
  exact ⟨e1, (add64 h1 (h2.mono (by omega)) (by omega)).1, rfl⟩
theorem wlk_ok {L : List Int} {c : Int → Int → Bool} (hc : ∀ u ∈ L, ∀ v ∈ L, c u v = true → dirB u v = true) (i j : Nat) (hi : i < L.length) : ∀ d ∈ wlk L c i j, dirB d.1 d.2 = true := by
  intro d hd
  have hv : ∀ v ∈ L, ∀ j, ∀ d ∈ rowc L c v j, dirB d.1 d.2 = true := by
    intro v hv j d hd
    unfold rowc at hd
    obtain ⟨u, hu, rfl⟩ := List.mem_map.1 hd
    obtain ⟨h1, h2⟩ := List.mem_filter.1 hu
    exact hc u (List.mem_of_mem_take h1) v hv h2
  rcases List.mem_append.1 hd with h | h
  · obtain ⟨v, h1, h2⟩ := List.mem_flatMap.1 h
    exact hv v (List.mem_of_mem_take h1) _ d h2
  · rw [get_at L i hi] at h
    exact hv _ (List.getElem_mem hi) j d h
theorem cL_ok (s : Nat) : ∀ u ∈ all, ∀ v ∈ all, cL s u v = true → dirB u v = true := by
  intro u hu v hv h
  obtain ⟨u0, u1⟩ := all_bd u hu
  obtain ⟨v0, v1⟩ := all_bd v hv
  unfold cL at h
  rw [Bool.and_eq_true] at h
  have := of_decide_eq_true h.2
  unfold dirB
  exact decide_eq_true ⟨u0, u1, v0, v1, this⟩

end Go.Proofs.Ytpeclgfopincbaa.skyNum
