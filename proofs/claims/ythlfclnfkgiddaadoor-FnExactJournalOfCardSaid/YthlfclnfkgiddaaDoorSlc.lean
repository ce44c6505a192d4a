/- Slices by their cells; rows of the call's own; what a change of one row leaves as it was. -/
import Derived.Below
import Derived.Laws.OwnMore
import Derived.Deep.AppendLies
import Derived.Deep.Draws
import Derived.Maps.AppendAt
import Derived.RegionTactic
import Derived.OwnWalk
import Derived.Deep.Slices
import Derived.Deep.Fields
import Derived.ChangeSame
import Derived.Lib.Hide
namespace Go.Proofs.YthlfclnfkgiddaaDoor.slc
set_option linter.unusedVariables false
open Go Go.RowKit
set_option linter.unusedVariables false

theorem add_block (a : Addr) (n : Nat) : (a.add n).block = a.block := by unfold Addr.add; split <;> rfl
theorem add_plain (g i j : Nat) : (⟨g, i, none⟩ : Addr).add j = ⟨g, i + j, none⟩ := by
  unfold Addr.add; split <;> simp_all

/-- The m cells behind a slice's address are told by f; they lie below block B. -/
def Rd (w : World) (B : Nat) (A : Option Addr) (m : Nat) (f : Nat → Value) : Prop :=
  0 < m → ∃ ad, A = some ad ∧ ad.block < B ∧ ∀ j, j < m → w.cell? (ad.add j) = some (f j)

section
variable {w w' : World} {B B' m n : Nat} {A : Option Addr} {f g : Nat → Value} {row : Option Nat}
theorem Rd.nil : Rd w B A 0 f := fun h => absurd h (by omega)
theorem Rd.at_ {k : Nat} (h : Rd w B A m f) (hk : k < m) : ∃ ad, A = some ad ∧ ad.block < B ∧ w.cell? (ad.add k) = some (f k) := by
  obtain ⟨ad, e, hb, hc⟩ := h (by omega)
  exact ⟨ad, e, hb, hc k hk⟩
theorem Rd.keep (h : Rd w B A m f) (hk : ∀ p : Addr, p.block < B → A.map Addr.block = some p.block → w'.cell? p = w.cell? p) : Rd w' B A m f := fun hm => by
  obtain ⟨ad, e, hb, hc⟩ := h hm
  exact ⟨ad, e, hb, fun j hj => (hk _ (by rw [add_block]; exact hb) (by rw [add_block, e]; rfl)).trans (hc j hj)⟩
theorem Rd.mono (h : Rd w B A m f) (hB : B ≤ B') : Rd w B' A m f := fun hm => by
  obtain ⟨ad, e, hb, hc⟩ := h hm
  exact ⟨ad, e, by omega, hc⟩
theorem Rd.congr (h : Rd w B A m f) (e : ∀ j, j < m → f j = g j) : Rd w B A m g := fun hm => by
  obtain ⟨ad, e', hb, hc⟩ := h hm
  exact ⟨ad, e', hb, fun j hj => (hc j hj).trans (by rw [e j hj])⟩
theorem Rd.kept (h : Rd w B A m f) (hg : w.grownBy w' row) (hB : B ≤ w.heap.size) (hr : ∀ b, A.map Addr.block = some b → b < B → some b ≠ row) : Rd w' B A m f :=
  h.keep fun p hp he => World.cell?_of_block (hg.block p.block (by omega) (hr _ he hp))
theorem Rd.kept0 (h : Rd w B A m f) (hg : w.grownBy w' none) (hB : B ≤ w.heap.size) : Rd w' B A m f := h.kept hg hB (by simp)
theorem Rd.below (h : Rd w B A m f) (hb : Below B w w') : Rd w' B A m f := h.keep fun _ hp _ => hb.cell hp
theorem Rd.drewN (h : Rd w B A m f) (k : Nat) : Rd (w.drewN k) B A m f := h
theorem Rd.of_own {base : Nat} {e : TypeId} {size c : Nat} {xs : List Value} (h : w.ownsRow base e size (.slice A n c) n xs) (hm : m = n * size) : Rd w w.heap.size A m (fun j => xs.getD j undef) := by
  intro hm0
  subst hm
  have hn : 0 < n := Nat.pos_of_ne_zero (fun e => by subst e; simp at hm0)
  obtain ⟨g, cap, hv, _, hlt⟩ := h.form hn
  have hA : A = some ⟨g, 0, none⟩ := by injection hv
  subst hA
  refine ⟨_, rfl, hlt, fun j hj => h.cells (g := g) rfl j _ ?_⟩
  have hl : j < xs.length := by rw [h.1]; exact hj
  simp [List.getD, List.getElem?_eq_getElem hl]
end

section
variable {a b c : World} {row : Option Nat}
theorem gb_drewN (w : World) (k : Nat) (row : Option Nat) : w.grownBy (w.drewN k) row := ⟨rfl, rfl, rfl, Nat.le_refl _, fun _ _ _ => rfl⟩
theorem gb_any (h : a.grownBy b none) (row : Option Nat) : a.grownBy b row := ⟨h.os, h.tape, h.output, h.size, fun k hk _ => h.block k hk (by simp)⟩
theorem gb_below (h : a.grownBy b none) : Below a.heap.size a b := ⟨h.os, h.tape, h.output, h.size, fun k hk => h.block k hk (by simp)⟩
theorem gb_of_below (h : Below a.heap.size a b) : a.grownBy b none := ⟨h.os, h.tape, h.output, h.size, fun k hk _ => h.block k hk⟩
/-- A change of a row that is new to the beginning changes nothing that was there. -/
theorem gb_new (h : a.grownBy b none) (k : b.grownBy c row) (hr : ∀ g, row = some g → a.heap.size ≤ g) : a.grownBy c none :=
  ⟨k.os.trans h.os, k.tape.trans h.tape, k.output.trans h.output, Nat.le_trans h.size k.size, fun i hi _ =>
    (k.block i (Nat.lt_of_lt_of_le hi h.size) (fun e => by have := hr i e.symm; omega)).trans (h.block i hi (by simp))⟩
end

/-- Every cell below n is an integer of 64 bits. -/
def Ints (f : Nat → Value) (n : Nat) : Prop := ∀ j, j < n → ∃ x : Int, f j = .int .i64 x
def ints (xs : List Int) : List Value := xs.map (Value.int .i64)
theorem ints_len (xs : List Int) : (ints xs).length = xs.length := by simp [ints]
theorem ints_getD (xs : List Int) (j : Nat) (hj : j < xs.length) : (ints xs).getD j undef = .int .i64 xs[j] := by
  simp [ints, List.getD, List.getElem?_eq_getElem hj]
theorem Ints.of (xs : List Int) (n : Nat) (hn : n ≤ xs.length) : Ints (fun j => (ints xs).getD j undef) n := fun j hj => ⟨_, ints_getD xs j (by omega)⟩

/-- A list by its index. -/
def lst (f : Nat → Value) (n : Nat) : List Value := (List.range n).map f
theorem lst_len (f : Nat → Value) (n : Nat) : (lst f n).length = n := by simp [lst]
theorem lst_getD (f : Nat → Value) (n j : Nat) (hj : j < n) : (lst f n).getD j undef = f j := by simp [lst, List.getD, hj]
theorem lst_get (f : Nat → Value) (n j : Nat) (hj : j < n) : (lst f n)[j]? = some (f j) := by simp [lst, hj]
theorem lst_of (xs : List Value) : lst (fun j => xs.getD j undef) xs.length = xs := by
  apply List.ext_getElem?
  intro i
  by_cases hi : i < xs.length
  · simp [lst, hi, List.getD]
  · simp [lst, hi]
theorem lst_congr {f g : Nat → Value} {n : Nat} (h : ∀ j, j < n → f j = g j) : lst f n = lst g n :=
  List.map_congr_left fun j hj => h j (List.mem_range.1 hj)
/-- The first k of g, the others of h. -/
def mix (g h : Nat → Value) (k : Nat) : Nat → Value := fun j => if j < k then g j else h j
theorem mix_zero (g h : Nat → Value) : mix g h 0 = h := by funext j; simp [mix]
theorem mix_full (g h : Nat → Value) (n : Nat) : lst (mix g h n) n = lst g n := lst_congr fun j hj => by simp [mix, hj]
theorem mix_set (g h : Nat → Value) (k n : Nat) (hk : k < n) : (lst (mix g h k) n).set k (g k) = lst (mix g h (k + 1)) n := by
  apply List.ext_getElem?
  intro i
  rw [List.getElem?_set]
  by_cases hi : k = i
  · subst hi
    simp [lst, mix, hk]
  · rw [if_neg hi]
    by_cases hn : i < n
    · rw [lst_get _ _ _ hn, lst_get _ _ _ hn]
      unfold mix
      by_cases h1 : i < k
      · rw [if_pos h1, if_pos (by omega)]
      · rw [if_neg h1, if_neg (by omega)]
    · simp [lst, hn]
theorem Rd.of_lst {w : World} {base : Nat} {e : TypeId} {n size m c : Nat} {A : Option Addr} {f : Nat → Value} (h : w.ownsRow base e size (.slice A n c) n (lst f m)) (hm : m = n * size) : Rd w w.heap.size A m f :=
  (Rd.of_own h hm).congr fun j hj => lst_getD f m j hj

/-- The marks k, k + 1 and so on. -/
def mkv (k : Int) : Nat → Value := fun j => .int .i64 (k + (j : Nat))

theorem own_base {w : World} {base : Nat} {e : TypeId} {size : Nat} {A : Option Addr} {n c : Nat} {xs : List Value} (h : w.ownsRow base e size (.slice A n c) n xs) : ∀ b, A.map Addr.block = some b → base ≤ b ∧ b < w.heap.size := by
  intro b hb
  cases A with
  | none => simp at hb
  | some ad => exact h.lt b (by simpa [Value.ownBlock] using hb)
theorem own_blk (A : Option Addr) (n c : Nat) : (Value.slice A n c).ownBlock = A.map Addr.block := by cases A <;> rfl
theorem own_cap {w : World} {base : Nat} {e : TypeId} {size : Nat} {A : Option Addr} {n c : Nat} {xs : List Value} (h : w.ownsRow base e size (.slice A n c) n xs) : n ≤ maxLen := by
  rcases h.2 with ⟨_, h0⟩ | ⟨g, cap, cur, hv, _, _, h1, h2, _⟩
  · rw [h0]; exact Nat.zero_le _
  · exact Nat.le_trans h1 h2
theorem replicate_lst (z : Value) (n : Nat) : List.replicate n z = lst (fun _ => z) n := by
  apply List.ext_getElem?
  intro i
  by_cases hn : i < n <;> simp [lst, hn]
theorem own_form {w : World} {base : Nat} {e : TypeId} {size : Nat} {v : Value} {n : Nat} {xs : List Value} (h : w.ownsRow base e size v n xs) : ∃ A c, v = .slice A n c := by
  rcases h.2 with ⟨rfl, rfl⟩ | ⟨g, cap, cur, rfl, _⟩
  · exact ⟨_, _, rfl⟩
  · exact ⟨_, _, rfl⟩
theorem int_one (k : IntKind) (x : Int) : ∀ u ∈ [Value.int k x], u.oneCell' = true := by
  intro u hu
  have : u = .int k x := by simpa using hu
  subst this
  rfl
theorem ints_snoc (xs : List Int) (x : Int) : ints xs ++ [.int .i64 x] = ints (xs ++ [x]) := by simp [ints]
/-- Behind an append of a row of the call's own. -/
theorem gb_own {w wr w1 : World} {base : Nat} {e : TypeId} {size : Nat} {v : Value} {n : Nat} {xs : List Value} (h : w.grownBy wr none) (ho : wr.ownsRow base e size v n xs) (hb : w.heap.size ≤ base) (hg : wr.grownBy w1 v.ownBlock) : w.grownBy w1 none :=
  gb_new h hg fun g e => Nat.le_trans hb (ho.lt g e).1
theorem own_kept0 {w w' : World} {base : Nat} {e : TypeId} {size : Nat} {v : Value} {n : Nat} {xs : List Value} (h : w.ownsRow base e size v n xs) (hg : w.grownBy w' none) : w'.ownsRow base e size v n xs :=
  h.kept hg (by cases v.ownBlock <;> simp)
theorem far_of {w : World} {base : Nat} {e : TypeId} {size : Nat} {A A' : Option Addr} {n c B : Nat} {xs : List Value} (h : w.ownsRow base e size (.slice A n c) n xs) (hB : B ≤ base) : ∀ b, A'.map Addr.block = some b → b < B → some b ≠ A.map Addr.block :=
  fun b _ hb he => by have := (own_base h b he.symm).1; omega
theorem base_of {w : World} {base : Nat} {e : TypeId} {size : Nat} {A : Option Addr} {n c B : Nat} {xs : List Value} (h : w.ownsRow base e size (.slice A n c) n xs) (hB : B ≤ base) : ∀ g, A.map Addr.block = some g → B ≤ g :=
  fun g hg => Nat.le_trans hB (own_base h g hg).1
/-- A pair in a new block, read again behind calls that only make memory. -/
theorem boxed2 {w w2 : World} {x y : Value} {t : TypeId} (hg : (w.alloc (.cells #[x, y] t)).grownBy w2 none) : w2.cell? ⟨w.heap.size, 0, none⟩ = some x ∧ w2.cell? ⟨w.heap.size, 1, none⟩ = some y := by
  have hb : w2.heap[w.heap.size]? = some (.cells #[x, y] t (0, 0)) := (hg.block _ (by simp) (by simp)).trans (heap_alloc_new w _)
  exact ⟨cell_of_row w2 _ 0 _ _ _ hb, cell_of_row w2 _ 1 _ _ _ hb⟩
theorem add_next (a : Addr) (n : Nat) : (⟨(a.add n).block, (a.add n).off + 1, none⟩ : Addr) = a.add (n + 1) := by
  by_cases hn : n = 0
  · subst hn; rfl
  · simp [Addr.add, hn, Nat.add_assoc]
theorem boxed4 {w w2 : World} {x y u v : Value} {t s : TypeId} (hg : ((w.alloc (.cells #[x, y] t)).alloc (.cells #[u, v] s)).grownBy w2 none) :
    w2.cell? ⟨w.heap.size, 0, none⟩ = some x ∧ w2.cell? ⟨w.heap.size, 1, none⟩ = some y ∧ w2.cell? ⟨w.heap.size + 1, 0, none⟩ = some u ∧ w2.cell? ⟨w.heap.size + 1, 1, none⟩ = some v := by
  have h1 := boxed2 ((World.grownBy_alloc (w.alloc (.cells #[x, y] t)) (.cells #[u, v] s) none).trans hg)
  have h2 := boxed2 hg
  have e : (w.alloc (.cells #[x, y] t)).heap.size = w.heap.size + 1 := by simp
  rw [e] at h2
  exact ⟨h1.1, h1.2, h2.1, h2.2⟩
theorem own_le {w : World} {base : Nat} {e : TypeId} {size : Nat} {A : Option Addr} {n c : Nat} {xs : List Value} (h : w.ownsRow base e size (.slice A n c) n xs) : n ≤ c ∧ c ≤ maxLen := by
  rcases h.2 with ⟨hv, h0⟩ | ⟨g, cap, cur, hv, _, _, h1, h2, _⟩
  · injection hv with _ _ hc
    subst h0 hc
    exact ⟨Nat.le_refl _, Nat.zero_le _⟩
  · injection hv with _ _ hc
    subst hc
    exact ⟨h1, h2⟩
theorem own_mono {w : World} {b b' : Nat} {e : TypeId} {size : Nat} {v : Value} {n : Nat} {xs : List Value} (h : w.ownsRow b e size v n xs) (hb : b' ≤ b) : w.ownsRow b' e size v n xs := by
  refine ⟨h.1, ?_⟩
  rcases h.2 with h0 | ⟨g, cap, cur, hv, hg, rest⟩
  · exact .inl h0
  · exact .inr ⟨g, cap, cur, hv, Nat.le_trans hb hg, rest⟩

end Go.Proofs.YthlfclnfkgiddaaDoor.slc
