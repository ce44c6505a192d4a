/- The power of normed weights is nearly 1. -/
import Derived.Test.YtabbfpjngbiohaaRows
import Derived.Test.YtabbfpjngbiohaaSlc
import Derived.Test.YtabbfpjngbiohaaR8
import Derived.Test.YtabbfpjngbiohaaSrc
import Derived.Test.YtabbfpjngbiohaaFloats
import Derived.Test.YtabbfpjngbiohaaRound
import Derived.Test.YtabbfpjngbiohaaValues
import Derived.Test.YtabbfpjngbiohaaConv
import Derived.Test.YtabbfpjngbiohaaFWalk
import Derived.Test.YtabbfpjngbiohaaFinWalk
import Derived.Test.YtabbfpjngbiohaaFloat2
import Derived.Test.YtabbfpjngbiohaaFloat3
import Derived.Test.YtabbfpjngbiohaaPhase
import Derived.Test.YtabbfpjngbiohaaSine
import Derived.Test.YtabbfpjngbiohaaPhasor
import Derived.Test.YtabbfpjngbiohaaListC
import Derived.Test.YtabbfpjngbiohaaSteerNum
import Derived.Test.YtabbfpjngbiohaaSineIn
import Derived.Test.YtabbfpjngbiohaaPolyNum
import Derived.Test.YtabbfpjngbiohaaPolyW
import Derived.Test.YtabbfpjngbiohaaPoly1
import Derived.Test.YtabbfpjngbiohaaGPoly
import Derived.Test.YtabbfpjngbiohaaGNum
import Derived.Test.YtabbfpjngbiohaaSrcW
import Derived.Test.YtabbfpjngbiohaaRq
import Derived.Test.YtabbfpjngbiohaaRoot
import Derived.Test.YtabbfpjngbiohaaPowW
import Derived.Test.YtabbfpjngbiohaaRootN
import Derived.Test.YtabbfpjngbiohaaQuoN
import Derived.Test.YtabbfpjngbiohaaFine
import Derived.Test.YtabbfpjngbiohaaFineN
import Derived.Test.YtabbfpjngbiohaaNormQ
import Derived.Test.YtabbfpjngbiohaaNormNum
import Derived.WalkKit
import Derived.ProofKit
import Derived.OpenShut
import Derived.ShutString
import Derived.ChangeOld
import Derived.Below
import Derived.Lib.Hide
import Derived.BigQuiet
import Derived.Deep.QuietTactic
import Derived.WalkLawsBesides
import Derived.Outline
import Derived.Deep.QuietTactic
import Derived.BigQuiet
import Derived.Deep.LoopGhost
import Derived.Laws.ComplexArith
namespace Go.Proofs.Ytabbfpjngbiohaa.normSum
open Go.ChangeShapes Go.WideShapes Go.ChangeAt Go.RowKit
open Go.ChangeMaps (open_string shut_string)
set_option linter.unusedVariables false
open Go Ieee Go.RowKit
open Go.Proofs.Ytabbfpjngbiohaa.slc Go.Proofs.Ytabbfpjngbiohaa.floats Go.Proofs.Ytabbfpjngbiohaa.round Go.Proofs.Ytabbfpjngbiohaa.values Go.Proofs.Ytabbfpjngbiohaa.conv Go.Proofs.Ytabbfpjngbiohaa.fWalk Go.Proofs.Ytabbfpjngbiohaa.float2 Go.Proofs.Ytabbfpjngbiohaa.float3 Go.Proofs.Ytabbfpjngbiohaa.phase Go.Proofs.Ytabbfpjngbiohaa.sine Go.Proofs.Ytabbfpjngbiohaa.phasor Go.Proofs.Ytabbfpjngbiohaa.listC Go.Proofs.Ytabbfpjngbiohaa.sineIn Go.Proofs.Ytabbfpjngbiohaa.polyNum Go.Proofs.Ytabbfpjngbiohaa.polyW Go.Proofs.Ytabbfpjngbiohaa.poly1 Go.Proofs.Ytabbfpjngbiohaa.gPoly Go.Proofs.Ytabbfpjngbiohaa.gNum Go.Proofs.Ytabbfpjngbiohaa.rq Go.Proofs.Ytabbfpjngbiohaa.powW Go.Proofs.Ytabbfpjngbiohaa.rootN Go.Proofs.Ytabbfpjngbiohaa.quoN Go.Proofs.Ytabbfpjngbiohaa.fine Go.Proofs.Ytabbfpjngbiohaa.fineN Go.Proofs.Ytabbfpjngbiohaa.normQ Go.Proofs.Ytabbfpjngbiohaa.normNum

def pq (x : Nat × Nat) : Rat := r32 x.1 * r32 x.1 + r32 x.2 * r32 x.2
def rsum (l : List (Nat × Nat)) : Rat := l.foldr (fun x s => pq x + s) 0
/-- A power that is added, by 64 bits. -/
theorem add_pow {s : Nat} {x : Nat × Nat} {e : Nat} (hs : Bd s (D64 + e)) (hx : Cb x 1) (h3 : 3 ≤ e) (he : e ≤ 12) : PowOk x ∧ floatBits .add .f64 s (pwW x) = some (bv .add s (pwW x)) ∧ Bd (bv .add s (pwW x)) (D64 + (e + 1)) ∧ nr (r64 (bv .add s (pwW x))) (r64 s + pq x) (1 / 10000000) := by
  obtain ⟨p1, p2, _, p4⟩ := pow_ok hx (by omega)
  have p2' : Bd (pwW x) (D64 + e) := ⟨p2.1, Nat.le_trans p2.2 (Nat.pow_le_pow_right (by omega) (by omega))⟩
  obtain ⟨a1, a2, a3⟩ := add64 hs p2' (by omega)
  refine ⟨p1, a1, a2, ?_⟩
  have q : two (e + 1) ≤ 8192 := by
    unfold two
    have : 2 ^ (e + 1) ≤ 2 ^ 13 := Nat.pow_le_pow_right (by omega) (by omega)
    exact_mod_cast this
  have z := nr_trans a3 (nr_add (show nr (r64 s) (r64 s) 0 by unfold nr; grind) p4)
  rw [show two (1 + 1) = 4 from rfl, two_num 47 140737488355328 rfl, two_num 50 1125899906842624 rfl] at z
  exact nr_mono z (by generalize two (e + 1) = T at *; grind)
theorem powers_near : ∀ (l : List (Nat × Nat)) (s e : Nat), (∀ x ∈ l, Cb x 1) → 3 ≤ e → e + l.length ≤ 12 → Bd s (D64 + e) → Bd (l.foldl (fun s x => bv .add s (pwW x)) s) (D64 + (e + l.length)) ∧ nr (r64 (l.foldl (fun s x => bv .add s (pwW x)) s)) (r64 s + rsum l) ((l.length : Rat) / 10000000) := by
  intro l
  induction l with
  | nil =>
    intro s e _ _ _ hs
    refine ⟨hs, ?_⟩
    show nr (r64 s) (r64 s + 0) (((0 : Nat) : Rat) / 10000000)
    unfold nr
    rw [show ((0 : Nat) : Rat) = 0 from rfl]
    grind
  | cons x l ih =>
    intro s e hl h3 he hs
    rw [List.length_cons] at he
    obtain ⟨_, _, a2, a3⟩ := add_pow hs (hl x (by simp)) h3 (by omega)
    obtain ⟨b1, b2⟩ := ih (bv .add s (pwW x)) (e + 1) (fun y hy => hl y (by simp [hy])) (by omega) (by omega) a2
    rw [List.foldl_cons, List.length_cons]
    refine ⟨by rw [show e + (l.length + 1) = e + 1 + l.length by omega]; exact b1, ?_⟩
    have er : rsum (x :: l) = pq x + rsum l := rfl
    rw [er]
    have ec : ((l.length + 1 : Nat) : Rat) = (l.length : Rat) + 1 := by push_cast; rfl
    rw [ec]
    generalize (l.length : Rat) = n at *
    unfold nr at *
    constructor <;> grind
theorem F64_bd0 : Bd 0 (D64 + 3) := ⟨F_zero, by rw [V_zero]; exact Nat.zero_le _⟩
theorem psum_near (l : List (Nat × Nat)) (h : ∀ x ∈ l, Cb x 1) (hn : l.length ≤ 9) : Bd (psum l) (D64 + (3 + l.length)) ∧ nr (r64 (psum l)) (rsum l) ((l.length : Rat) / 10000000) := by
  obtain ⟨a, b⟩ := powers_near l 0 3 h (by omega) (by omega) F64_bd0
  have e0 : r64 0 = 0 := by unfold r64; rw [V_zero, show ((0 : Int) : Rat) = 0 from rfl, Rat.div_def, Rat.zero_mul]
  rw [e0, Rat.zero_add] at b
  exact ⟨a, b⟩
/-- A number by another of 32 bits. -/
def sc (y : Nat) (x : Nat × Nat) : Nat × Nat := (bm32 x.1 y, bm32 x.2 y)
structure ScOk (y : Nat) (x : Nat × Nat) : Prop where
  a : floatBits .mul .f32 x.1 y = some (sc y x).1
  b : floatBits .mul .f32 x.2 y = some (sc y x).2
theorem fr (g : G) (h : InG g) : r32 (fW g).1 = (g.1 : Rat) / 16 ∧ r32 (fW g).2 = (g.2 : Rat) / 16 := ⟨(fW_ok h).1.r, (fW_ok h).2.r⟩
theorem pq_f (g : G) (h : InG g) : pq (fW g) = ((sq g : Int) : Rat) / 256 := by
  unfold pq sq
  rw [(fr g h).1, (fr g h).2]
  push_cast
  grind
/-- A weight by a number that leaves the power of all at most 1.001. -/
theorem sc_near {y : Nat} {g : G} (hy : FinW single y) (hg : InG g) (h : r32 y * r32 y * (((sq g : Int) : Rat) / 256) ≤ 1001 / 1000) : ScOk y (fW g) ∧ Cb (sc y (fW g)) 1 ∧ nr (pq (sc y (fW g))) (r32 y * r32 y * (((sq g : Int) : Rat) / 256)) (1 / 400000) := by
  rw [← pq_f g hg] at *
  obtain ⟨f1, f2⟩ := fW_ok hg
  unfold pq at *
  have n1 := sq0 (r32 (fW g).1 * r32 y)
  have n2 := sq0 (r32 (fW g).2 * r32 y)
  have k1 : r32 (fW g).1 * r32 y * (r32 (fW g).1 * r32 y) ≤ 1001 / 1000 := by grind
  have k2 : r32 (fW g).2 * r32 y * (r32 (fW g).2 * r32 y) ≤ 1001 / 1000 := by grind
  have b1 := abs_of_sq (c := 101 / 100) (t := r32 (fW g).1 * r32 y) (by grind) (by grind)
  have b2 := abs_of_sq (c := 101 / 100) (t := r32 (fW g).2 * r32 y) (by grind) (by grind)
  obtain ⟨m1, m2, m3⟩ := mul32_t (e := 1) f1.1 hy (nr_mono b1 (by rw [two_num 1 2 rfl]; grind)) (by omega)
  obtain ⟨o1, o2, o3⟩ := mul32_t (e := 1) f2.1 hy (nr_mono b2 (by rw [two_num 1 2 rfl]; grind)) (by omega)
  rw [two_num 1 2 rfl, two_num 22 4194304 rfl] at m3 o3
  have p1 := part_q k1 (nr_mono m3 (by grind))
  have p2 := part_q k2 (nr_mono o3 (by grind))
  refine ⟨⟨m1, o1⟩, ⟨m2, o2⟩, ?_⟩
  show nr (r32 (bm32 (fW g).1 y) * r32 (bm32 (fW g).1 y) + r32 (bm32 (fW g).2 y) * r32 (bm32 (fW g).2 y)) _ _
  have e : r32 y * r32 y * (r32 (fW g).1 * r32 (fW g).1 + r32 (fW g).2 * r32 (fW g).2) = r32 (fW g).1 * r32 y * (r32 (fW g).1 * r32 y) + r32 (fW g).2 * r32 y * (r32 (fW g).2 * r32 y) := by grind
  rw [e]
  unfold nr nq at *
  constructor <;> grind
theorem sq_mem {l : List G} {g : G} (hl : ∀ x ∈ l, InG x) (hg : g ∈ l) : sq g ≤ sqs l := by
  induction l with
  | nil => cases hg
  | cons x l ih =>
    have h1 := sq_le (hl x (by simp))
    have h2 := sqs_le l (fun y hy => hl y (by simp [hy]))
    have e : sqs (x :: l) = sq x + sqs l := by unfold sqs; rw [List.map_cons, List.sum_cons]
    rw [e]
    rcases List.mem_cons.1 hg with q | q
    · subst q; omega
    · have := ih (fun y hy => hl y (by simp [hy])) q; omega
theorem rsum_near {y : Nat} (hy : FinW single y) : ∀ (l : List G), (∀ g ∈ l, InG g ∧ r32 y * r32 y * (((sq g : Int) : Rat) / 256) ≤ 1001 / 1000) → nr (rsum ((l.map fW).map (sc y))) (r32 y * r32 y * (((sqs l : Int) : Rat) / 256)) ((l.length : Rat) / 400000) := by
  intro l
  induction l with
  | nil =>
    intro _
    show nr 0 (r32 y * r32 y * (((0 : Int) : Rat) / 256)) (((0 : Nat) : Rat) / 400000)
    rw [show ((0 : Int) : Rat) = 0 from rfl, show ((0 : Nat) : Rat) = 0 from rfl]
    unfold nr
    grind
  | cons g l ih =>
    intro h
    have a := ih (fun x hx => h x (by simp [hx]))
    obtain ⟨g1, g2⟩ := h g (by simp)
    have b := (sc_near hy g1 g2).2.2
    have e : sqs (g :: l) = sq g + sqs l := by unfold sqs; rw [List.map_cons, List.sum_cons]
    rw [e, List.length_cons, List.map_cons, List.map_cons]
    have er : rsum (sc y (fW g) :: (l.map fW).map (sc y)) = pq (sc y (fW g)) + rsum ((l.map fW).map (sc y)) := rfl
    rw [er]
    have ec : ((l.length + 1 : Nat) : Rat) = (l.length : Rat) + 1 := by push_cast; rfl
    have es : ((sq g + sqs l : Int) : Rat) = ((sq g : Int) : Rat) + ((sqs l : Int) : Rat) := by push_cast; rfl
    rw [ec, es]
    have ed : r32 y * r32 y * ((((sq g : Int) : Rat) + ((sqs l : Int) : Rat)) / 256) = r32 y * r32 y * (((sq g : Int) : Rat) / 256) + r32 y * r32 y * (((sqs l : Int) : Rat) / 256) := by grind
    rw [ed]
    generalize (l.length : Rat) = n at *
    generalize r32 y * r32 y * (((sq g : Int) : Rat) / 256) = A at *
    generalize r32 y * r32 y * (((sqs l : Int) : Rat) / 256) = B at *
    unfold nr at *
    constructor <;> grind
/-- All of it: weights in sixteenths with a power above 0, normed, and their power. -/
theorem norm_all (l : List G) (hl : ∀ g ∈ l, InG g) (hn : l.length ≤ 8) (h1 : 1 ≤ sqs l) :
    (∀ g ∈ l, ScOk (byW (nw (psum (l.map fW)))) (fW g) ∧ Cb (sc (byW (nw (psum (l.map fW)))) (fW g)) 1) ∧ Bd (psum ((l.map fW).map (sc (byW (nw (psum (l.map fW))))))) (D64 + 11) ∧ nr (r32 (nw (psum ((l.map fW).map (sc (byW (nw (psum (l.map fW))))))))) 1 (3 / 4000) := by
  have hp := psum_16 _ l rfl (by omega) hl
  have hs := sqs_le l hl
  obtain ⟨_, p2, p3⟩ := narrow_256 hp (by omega)
  obtain ⟨s, _, _, _, _, hy, hq⟩ := by_ok p2 p3 h1 (by omega)
  generalize byW (nw (psum (l.map fW))) = y at *
  have hall : ∀ g ∈ l, InG g ∧ r32 y * r32 y * (((sq g : Int) : Rat) / 256) ≤ 1001 / 1000 := by
    intro g hg
    refine ⟨hl g hg, ?_⟩
    have c : ((sq g : Int) : Rat) ≤ ((sqs l : Int) : Rat) := Rat.intCast_le_intCast.2 (sq_mem hl hg)
    have d := Rat.mul_nonneg (sq0 (r32 y)) (show 0 ≤ ((sqs l : Int) : Rat) / 256 - ((sq g : Int) : Rat) / 256 by grind)
    have e : r32 y * r32 y * (((sqs l : Int) : Rat) / 256 - ((sq g : Int) : Rat) / 256) = r32 y * r32 y * (((sqs l : Int) : Rat) / 256) - r32 y * r32 y * (((sq g : Int) : Rat) / 256) := by grind
    rw [e] at d
    unfold nq at hq
    generalize r32 y * r32 y * (((sqs l : Int) : Rat) / 256) = A at *
    generalize r32 y * r32 y * (((sq g : Int) : Rat) / 256) = B at *
    grind
  have hc : ∀ x ∈ (l.map fW).map (sc y), Cb x 1 := by
    intro x hx
    rw [List.map_map] at hx
    obtain ⟨g, hg, rfl⟩ := List.mem_map.1 hx
    exact (sc_near hy (hall g hg).1 (hall g hg).2).2.1
  refine ⟨fun g hg => ⟨(sc_near hy (hall g hg).1 (hall g hg).2).1, (sc_near hy (hall g hg).1 (hall g hg).2).2.1⟩, ?_⟩
  obtain ⟨b1, b2⟩ := psum_near _ hc (by simp; omega)
  have b3 := rsum_near hy l hall
  have b1' : Bd (psum ((l.map fW).map (sc y))) (D64 + 11) := ⟨b1.1, Nat.le_trans b1.2 (Nat.pow_le_pow_right (by omega) (by simp; omega))⟩
  obtain ⟨_, c2⟩ := nw_r b1' (by omega)
  refine ⟨b1', ?_⟩
  rw [two_num 11 2048 rfl, two_num 22 4194304 rfl] at c2
  have hlen : ((((l.map fW).map (sc y)).length : Nat) : Rat) ≤ 8 := by
    have : (((l.map fW).map (sc y)).length) ≤ 8 := by simp; exact hn
    exact_mod_cast this
  have hlen2 : ((l.length : Nat) : Rat) ≤ 8 := by exact_mod_cast hn
  generalize ((((l.map fW).map (sc y)).length : Nat) : Rat) = n1 at *
  generalize ((l.length : Nat) : Rat) = n2 at *
  unfold nr nq at *
  constructor <;> grind

end Go.Proofs.Ytabbfpjngbiohaa.normSum
