/- Lists of complex numbers in a law: compared, marked, held. -/
import Derived.Test.YthlfclnfkgiddaaDoorRows
import Derived.Test.YthlfclnfkgiddaaDoorSlc
import Derived.Test.YthlfclnfkgiddaaDoorFloats
import Derived.Test.YthlfclnfkgiddaaDoorRound
import Derived.Test.YthlfclnfkgiddaaDoorValues
import Derived.Test.YthlfclnfkgiddaaDoorConv
import Derived.Test.YthlfclnfkgiddaaDoorFWalk
import Derived.Test.YthlfclnfkgiddaaDoorFinWalk
import Derived.Test.YthlfclnfkgiddaaDoorFloat2
import Derived.Test.YthlfclnfkgiddaaDoorFloat3
import Derived.Test.YthlfclnfkgiddaaDoorPhase
import Derived.Test.YthlfclnfkgiddaaDoorSine
import Derived.Test.YthlfclnfkgiddaaDoorPhasor
import Derived.WalkKit
import Derived.ProofKit
import Derived.OpenShut
import Derived.ShutString
import Derived.ChangeOld
import Derived.Below
import Derived.Lib.Hide
import Derived.BigQuiet
import Derived.Deep.QuietTactic
import Derived.WalkLawsBesides
import Derived.Outline
import Derived.Deep.QuietTactic
import Derived.BigQuiet
import Derived.Deep.LoopGhost
import Derived.Deep.RegionHeld3
import Derived.Laws.ComplexArith
namespace Go.Proofs.YthlfclnfkgiddaaDoor.listC
open Go.ChangeShapes Go.WideShapes Go.ChangeAt Go.RowKit
open Go.ChangeMaps (open_string shut_string)
set_option linter.unusedVariables false
open Go Ieee Go.RowKit
open Go.Proofs.YthlfclnfkgiddaaDoor.slc Go.Proofs.YthlfclnfkgiddaaDoor.floats Go.Proofs.YthlfclnfkgiddaaDoor.round Go.Proofs.YthlfclnfkgiddaaDoor.values Go.Proofs.YthlfclnfkgiddaaDoor.conv Go.Proofs.YthlfclnfkgiddaaDoor.fWalk Go.Proofs.YthlfclnfkgiddaaDoor.finWalk Go.Proofs.YthlfclnfkgiddaaDoor.float2 Go.Proofs.YthlfclnfkgiddaaDoor.float3 Go.Proofs.YthlfclnfkgiddaaDoor.phase Go.Proofs.YthlfclnfkgiddaaDoor.sine Go.Proofs.YthlfclnfkgiddaaDoor.phasor

theorem infoC : (Tryd.prog.info? 110).map (fun i => (i.zero, i.size, i.bytes)) = some (some (.complex .f32 0 0), 1, 8) := by kernel_rfl

/-- A 32-bit number widened. -/
def wd (a : Nat) : Nat := (floatToFloatBits .f32 a .f64).getD 0
theorem wd_ok {a : Nat} (h : FinW single a) : floatToFloatBits .f32 a .f64 = some (wd a) ∧ FinW double (wd a) := by
  obtain ⟨r, hr, hrr⟩ := widen_rnd h
  have e : wd a = r := by unfold wd; rw [hr]; rfl
  rw [e]
  exact ⟨hr, hrr.fin⟩
theorem ff_wd {a : Nat} (h : FinW single a) (w : World) : (Conv.floatToFloat .f32 a .f64).run Tryd.prog w = .ok (.float .f64 (wd a)) w := by
  have h1 := run_convff (P := Tryd.prog) w 140 163 .f32 .f64 a (by rw [Tryd.underlying140]; rfl) Tryd.underlying163
  have e1 : cval .f32 w a .f64 = wd a := by unfold cval; rw [(wd_ok h).1]
  have e2 : ccnt .f32 a .f64 = 0 := by unfold ccnt; rw [(wd_ok h).1]; rfl
  rw [e1, e2] at h1
  simpa [convert, run_underlying Tryd.underlying140, run_underlying Tryd.underlying163, World.drewN] using h1
theorem cc_wd {a b : Nat} (ha : FinW single a) (hb : FinW single b) (w : World) : (convert 110 162 (.complex .f32 a b)).run Tryd.prog w = .ok (.complex .f64 (wd a) (wd b)) w := by
  simp [convert, run_underlying Tryd.underlying110, run_underlying Tryd.underlying162, Conv.complexToComplex, ff_wd ha, ff_wd hb]
theorem ff_nw {x : Nat} (h : Bd x (D64 + 34)) (w : World) : (Conv.floatToFloat .f64 x .f32).run Tryd.prog w = .ok (.float .f32 (nw x)) w := by
  have h1 := run_nw h w
  simpa [convert, run_underlying Tryd.underlying140, run_underlying Tryd.underlying163] using h1
theorem nw_one : nw 4607182418800017408 = 1065353216 := by decide +kernel
/-- The number k as a mark. -/
def nm (k : Int) : Nat := nw (floatOfInt .f64 k)
theorem nm_ok (k : Nat) (h : k ≤ 1048576) : Bd (floatOfInt .f64 (k : Int)) (D64 + 34) := by
  have e : floatOfInt .f64 (k : Int) = double.nearest false k 0 := by
    unfold floatOfInt FloatKind.nearest
    have : ¬ ((k : Int) < 0) := by omega
    simp only [this, decide_false, Int.natAbs_natCast]
    rfl
  obtain ⟨f1, f2⟩ := float_int false k (Nat.le_trans h (by decide))
  rw [e]
  refine ⟨f1, ?_⟩
  rw [f2, sg_abs, four_q, Nat.pow_add, Nat.mul_comm]
  exact Nat.mul_le_mul_left _ (Nat.le_trans h (by decide))
theorem cc_nm (k : Nat) (h : k ≤ 1048576) (w : World) : (convert 162 110 (.complex .f64 (floatOfInt .f64 (k : Int)) 4607182418800017408)).run Tryd.prog w = .ok (.complex .f32 (nm k) 1065353216) w := by
  have h1 := ff_nw (nm_ok k h) w
  have h2 := ff_nw (one_bd.mono (b := D64 + 34) (by omega)) w
  rw [nw_one] at h2
  simp [convert, run_underlying Tryd.underlying110, run_underlying Tryd.underlying162, Conv.complexToComplex, h1, h2, nm]

/-- Every cell below n is a finite complex number. -/
def Cpx (f : Nat → Value) (n : Nat) : Prop := ∀ j, j < n → ∃ a b : Nat, f j = .complex .f32 a b ∧ FinW single a ∧ FinW single b
/-- The marks k, k + 1 and so on, each with the imaginary part 1. -/
def mkc (k : Nat) : Nat → Value := fun j => .complex .f32 (nm ((k + j : Nat) : Int)) 1065353216

theorem run_store_complex {P : Program} {w : World} {m : Mode} (a : Addr) (k : FloatKind) (x y : Nat) : (store a (.complex k x y) m).run P w = stored P w a (.complex k x y) m := run_store P w a _ m rfl
attribute [local go_sem] run_store_complex

theorem same_fin (a b : Nat) (w : World) :
    Calls Tryd.prog 130 #[.complex .f64 a b, .complex .f64 a b] w fun e w' => e = .returned (.bool true) ∧ w.grownBy w' none := by
  go_enter Tryd.func130, Tryd.ntmps130
  go_wp2_with fail
  refine (same_float _ _ _ rfl).mono ?_
  rintro e w' ⟨rfl, n, rfl⟩
  go_wp2_with fail
  refine (same_float _ _ _ rfl).mono ?_
  rintro e w' ⟨rfl, m, rfl⟩
  go_wp2_with fail
  go_ret
  exact ⟨rfl, gb_drewN _ _ _⟩

set_option maxHeartbeats 800000 in
set_option maxRecDepth 100000 in
theorem eqC_true (A A' : Option Addr) (n c d B : Nat) (f : Nat → Value) (w : World) (hn : n ≤ 9223372036854775807) (hB : B ≤ w.heap.size) (hi : Cpx f n) (ha : Rd w B A n f) (hb : Rd w B A' n f) :
    Calls Tryd.prog 88 #[.slice A n c, .slice A' n d] w fun e w' => e = .returned (.bool true) ∧ w.grownBy w' none := by
  go_enter Tryd.func88, Tryd.ntmps88
  go_wp2
  go_loopw [5] (fun i wr => ∃ k : Nat, k ≤ n ∧ i = .int .i64 k ∧ w.grownBy wr none) (fun i _ => n - (intOf i).toNat)
  case atStart => exact ⟨0, Nat.zero_le _, rfl, World.grownBy.refl _ _⟩
  case round =>
    obtain ⟨k, hk, rfl, hg⟩ := hrel
    by_cases hlt : k < n
    · obtain ⟨x, y, hx, fx, fy⟩ := hi k hlt
      obtain ⟨ad, rfl, _, hc⟩ := (ha.kept0 hg hB).at_ hlt
      obtain ⟨bd, rfl, _, hd⟩ := (hb.kept0 hg hB).at_ hlt
      rw [hx] at hc hd
      have hcv := cc_wd fx fy
      have hk0 : (0 : Int) ≤ k := by omega
      have hk1 : (k : Int) < n := by omega
      clear hx fx fy
      go_wp2
      go_region_held3 (fun w' => w'.cell? (ad.add k) = some (.complex .f32 x y) ∧ w'.cell? (bd.add k) = some (.complex .f32 x y) ∧ w.grownBy w' none)
        (first
          | (go_split_ands
             exact ⟨hg5.cell (by assumption) (by simp), hg5.cell (by assumption) (by simp), World.grownBy.trans (by assumption) hg5⟩)
          | exact ⟨hc, hd, ⟨hg.os, hg.tape, hg.output, hg.size, hg.block⟩⟩)
        ((go_at_call 130; refine (same_fin _ _ _).mono ?_; rintro e w' ⟨rfl, hg5⟩))
      obtain ⟨_, _, hfin⟩ : (w'.cell? (ad.add k) = some (.complex .f32 x y) ∧ w'.cell? (bd.add k) = some (.complex .f32 x y) ∧ w.grownBy w' none) := by assumption
      go_wp2
      go_roundw
      case rel => exact ⟨k + 1, by omega, by go_num, hfin⟩
      case measure => simp [intOf]; omega
    · go_wp2
      go_ret
      exact ⟨rfl, hg⟩

set_option maxHeartbeats 400000 in
set_option maxRecDepth 100000 in
theorem markC (A : Option Addr) (n c base : Nat) (e : TypeId) (k : Nat) (f : Nat → Value) (w : World) (hn : n + k ≤ 1048576) (ho : w.ownsRow base e 1 (.slice A n c) n (lst f n)) :
    Calls Tryd.prog 89 #[.slice A n c, .int .i64 k] w fun en w' => en = .returned (.int .i64 (k + n : Nat)) ∧ w'.ownsRow base e 1 (.slice A n c) n (lst (mkc k) n) ∧ w.grownBy w' (A.map Addr.block) := by
  go_enter Tryd.func89, Tryd.ntmps89
  go_wp2
  go_loopw [1, 5] (fun m i wr => ∃ j : Nat, j ≤ n ∧ i = .int .i64 j ∧ m = .int .i64 (k + j : Nat) ∧ wr.ownsRow base e 1 (.slice A n c) n (lst (mix (mkc k) f j) n) ∧ w.grownBy wr (A.map Addr.block)) (fun _ i _ => n - (intOf i).toNat)
  case atStart => exact ⟨0, Nat.zero_le _, rfl, rfl, by rw [mix_zero]; exact ho, World.grownBy.refl _ _⟩
  case round =>
    obtain ⟨j, hj, rfl, rfl, hown, hg⟩ := hrel
    by_cases hlt : j < n
    · obtain ⟨g, cap, hv, _, _⟩ := hown.form (by omega)
      obtain ⟨rfl, rfl⟩ : A = some ⟨g, 0, none⟩ ∧ c = cap := by injection hv with a b c; exact ⟨a, c⟩
      clear hv
      have hc := hown.cellAt j (by omega)
      rw [lst_get _ _ _ hlt] at hc
      have hf := hown.frozenAt j
      obtain ⟨hs1, hs2⟩ := hown.stored j (mkc k j)
      rw [mix_set _ _ _ _ hlt] at hs1
      have hs2' := hg.trans hs2
      clear hg hown hs2
      have HS := Lib.hid hs1
      have HG := Lib.hid hs2'
      clear hs1 hs2'
      have hcv := cc_nm (k + j) (by omega)
      have hcast : ((k + j : Nat) : Int) = (k : Int) + (j : Int) := by omega
      rw [hcast] at hcv
      clear hcast
      go_wp2
      go_roundw
      case rel => exact ⟨j + 1, by omega, by go_num, by go_num, HS.out, HG.out⟩
      case measure => simp [intOf]; omega
    · obtain rfl : j = n := by omega
      go_wp2
      go_ret
      exact ⟨by go_num, by rw [← mix_full]; exact hown, hg⟩

theorem order_fin_self {a : Nat} (h : FinW single a) : (FloatKind.f32.format.order a a == some .eq) = true := by
  rw [order_refl (k := .f32) (fin_not_nan (k := .f32) h)]; rfl
theorem nm_fin (k : Nat) (h : k ≤ 1048576) : FinW single (nm k) := (nw_ok (nm_ok k h)).2
theorem one_fin : FinW single 1065353216 := by unfold FinW; decide +kernel

set_option maxHeartbeats 400000 in
set_option maxRecDepth 100000 in
theorem heldC (A : Option Addr) (n c B : Nat) (k : Nat) (w : World) (hn : n + k ≤ 1048576) (ha : Rd w B A n (mkc k)) :
    Calls Tryd.prog 90 #[.slice A n c, .int .i64 k] w fun en w' => en = .returned (.int .i64 (k + n : Nat)) ∧ w = w' := by
  go_enter Tryd.func90, Tryd.ntmps90
  go_wp2
  go_loop [1, 5] (fun m i => ∃ j : Nat, j ≤ n ∧ i = .int .i64 j ∧ m = .int .i64 (k + j : Nat)) (fun _ i => n - (intOf i).toNat)
  case atStart => exact ⟨0, Nat.zero_le _, rfl, rfl⟩
  case round =>
    obtain ⟨j, hj, rfl, rfl⟩ := hrel
    by_cases hlt : j < n
    · obtain ⟨ad, rfl, _, hc⟩ := ha.at_ hlt
      have hm : mkc k j = .complex .f32 (nm ((k : Int) + (j : Int))) 1065353216 := by unfold mkc; rw [show ((k + j : Nat) : Int) = (k : Int) + (j : Int) by omega]
      rw [hm] at hc
      have hcv := cc_nm (k + j) (by omega)
      have ho1 := order_fin_self (nm_fin (k + j) (by omega))
      have ho2 := order_fin_self one_fin
      have hcast : ((k + j : Nat) : Int) = (k : Int) + (j : Int) := by omega
      rw [hcast] at hcv ho1
      clear hm hcast
      go_wp2
      go_round
      case rel => exact ⟨j + 1, by omega, by go_num, by go_num⟩
      case measure => simp [intOf]; omega
    · obtain rfl : j = n := by omega
      go_wp2
      go_ret
      exact ⟨by go_num, rfl⟩

theorem markC1 (A : Option Addr) (n c base : Nat) (e : TypeId) (f : Nat → Value) (w : World) (hn : n ≤ 65536) (ho : w.ownsRow base e 1 (.slice A n c) n (lst f n)) :
    Calls Tryd.prog 89 #[.slice A n c, .int .i64 1] w fun en w' => en = .returned (.int .i64 (n + 1)) ∧ w'.ownsRow base e 1 (.slice A n c) n (lst (mkc 1) n) ∧ w.grownBy w' (A.map Addr.block) :=
  (markC A n c base e 1 f w (by omega) ho).mono fun en w' ⟨h1, h2, h3⟩ => ⟨by rw [h1]; go_num, h2, h3⟩
theorem heldC1 (A : Option Addr) (n c B : Nat) (w : World) (hn : n ≤ 65536) (ha : Rd w B A n (mkc 1)) :
    Calls Tryd.prog 90 #[.slice A n c, .int .i64 1] w fun en w' => en = .returned (.int .i64 (n + 1)) ∧ w = w' :=
  (heldC A n c B 1 w (by omega) ha).mono fun en w' ⟨h1, h2⟩ => ⟨by rw [h1]; go_num, h2⟩

/-- The cells of a list of complex numbers. -/
def ccell (l : List (Nat × Nat)) (j : Nat) : Value := .complex .f32 (l.getD j (0, 0)).1 (l.getD j (0, 0)).2
def FinL (l : List (Nat × Nat)) : Prop := ∀ p ∈ l, FinW single p.1 ∧ FinW single p.2
theorem FinL.cpx {l : List (Nat × Nat)} (h : FinL l) : Cpx (ccell l) l.length := fun j hj => by
  have := h l[j] (List.getElem_mem hj)
  refine ⟨_, _, rfl, ?_, ?_⟩ <;> simp [List.getD, hj, this]
theorem ccell_snoc (l : List (Nat × Nat)) (a b : Nat) : lst (ccell (l ++ [(a, b)])) (l ++ [(a, b)]).length = lst (ccell l) l.length ++ [.complex .f32 a b] := by
  apply List.ext_getElem?
  intro i
  by_cases h1 : i < l.length
  · rw [List.getElem?_append_left (by rw [lst_len]; exact h1), lst_get _ _ _ h1, lst_get _ _ _ (by simp; omega)]
    simp [ccell, List.getD, List.getElem?_append_left h1]
  · rw [List.getElem?_append_right (by rw [lst_len]; omega), lst_len]
    by_cases h2 : i = l.length
    · subst h2
      rw [lst_get _ _ _ (by simp)]
      simp [ccell]
    · rw [List.getElem?_eq_none (by rw [lst_len]; simp; omega), List.getElem?_eq_none (by simp; omega)]
/-- A function answers with a list of complex numbers of its own, and a bool. -/
def GivesC (F : Nat) (args : Array Value) (l : List (Nat × Nat)) (ok : Bool) : Prop :=
  ∀ w : World, Calls Tryd.prog F args w fun e w' => ∃ A c, e = .returned (.tuple #[.slice A l.length c, .bool ok]) ∧ w'.ownsRow w.heap.size 110 1 (.slice A l.length c) l.length (lst (ccell l) l.length) ∧ w.grownBy w' none

end Go.Proofs.YthlfclnfkgiddaaDoor.listC
