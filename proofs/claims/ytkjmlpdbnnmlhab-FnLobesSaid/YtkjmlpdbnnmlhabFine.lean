/- Draws of complex numbers with parts in sixteenths; what they are. -/
import Derived.Test.YtkjmlpdbnnmlhabRows
import Derived.Test.YtkjmlpdbnnmlhabSlc
import Derived.Test.YtkjmlpdbnnmlhabR8
import Derived.Test.YtkjmlpdbnnmlhabSrc
import Derived.Test.YtkjmlpdbnnmlhabFloatAll
import Derived.Test.YtkjmlpdbnnmlhabFWalk
import Derived.Test.YtkjmlpdbnnmlhabFinWalk
import Derived.Test.YtkjmlpdbnnmlhabFlAll
import Derived.Test.YtkjmlpdbnnmlhabPhasor
import Derived.Test.YtkjmlpdbnnmlhabListC
import Derived.Test.YtkjmlpdbnnmlhabSteerNum
import Derived.Test.YtkjmlpdbnnmlhabSineIn
import Derived.Test.YtkjmlpdbnnmlhabPolyNum
import Derived.Test.YtkjmlpdbnnmlhabPolyW
import Derived.Test.YtkjmlpdbnnmlhabPoly1
import Derived.Test.YtkjmlpdbnnmlhabGPoly
import Derived.Test.YtkjmlpdbnnmlhabGNum
import Derived.Test.YtkjmlpdbnnmlhabSrcW
import Derived.Test.YtkjmlpdbnnmlhabRq
import Derived.WalkKit
import Derived.ProofKit
import Derived.OpenShut
import Derived.ShutString
import Derived.ChangeOld
import Derived.Below
import Derived.Lib.Hide
import Derived.BigQuiet
import Derived.Deep.QuietTactic
import Derived.WalkLawsBesides
import Derived.Outline
import Derived.Deep.LoopGhost
import Derived.Laws.ComplexArith
namespace Go.Proofs.Ytkjmlpdbnnmlhab.fine
open Go.ChangeShapes Go.WideShapes Go.ChangeAt Go.RowKit
open Go.ChangeMaps (open_string shut_string)
set_option linter.unusedVariables false
open Go Ieee Go.RowKit
open Go.Proofs.Ytkjmlpdbnnmlhab.slc Go.Proofs.Ytkjmlpdbnnmlhab.r8 Go.Proofs.Ytkjmlpdbnnmlhab.src Go.Proofs.Ytkjmlpdbnnmlhab.floats Go.Proofs.Ytkjmlpdbnnmlhab.round Go.Proofs.Ytkjmlpdbnnmlhab.values Go.Proofs.Ytkjmlpdbnnmlhab.conv Go.Proofs.Ytkjmlpdbnnmlhab.fWalk Go.Proofs.Ytkjmlpdbnnmlhab.float2 Go.Proofs.Ytkjmlpdbnnmlhab.float3 Go.Proofs.Ytkjmlpdbnnmlhab.phase Go.Proofs.Ytkjmlpdbnnmlhab.sine Go.Proofs.Ytkjmlpdbnnmlhab.phasor Go.Proofs.Ytkjmlpdbnnmlhab.listC Go.Proofs.Ytkjmlpdbnnmlhab.sineIn Go.Proofs.Ytkjmlpdbnnmlhab.polyNum Go.Proofs.Ytkjmlpdbnnmlhab.polyW Go.Proofs.Ytkjmlpdbnnmlhab.poly1 Go.Proofs.Ytkjmlpdbnnmlhab.gPoly Go.Proofs.Ytkjmlpdbnnmlhab.gNum Go.Proofs.Ytkjmlpdbnnmlhab.srcW Go.Proofs.Ytkjmlpdbnnmlhab.rq

/-! ## numbers in sixteenths -/
def q16 (k : Int) : Nat := (floatBits .quo .f32 (floatOfInt .f32 k) 1098907648).getD 0
/-- x is finite, with the value k in parts of 2^4. -/
def S16 (x : Nat) (k : Int) : Prop := FinW single x ∧ V single x = k * 2 ^ 145
theorem q16_tab : ∀ j : Nat, j < 65 → floatBits .quo .f32 (floatOfInt .f32 ((j : Int) - 32)) 1098907648 = some (q16 ((j : Int) - 32)) ∧ rg single (q16 ((j : Int) - 32)) < single.infRung ∧ V single (q16 ((j : Int) - 32)) = ((j : Int) - 32) * 2 ^ 145 := by decide +kernel
theorem q16_ok (k : Int) (h : -32 ≤ k ∧ k ≤ 32) : floatBits .quo .f32 (floatOfInt .f32 k) 1098907648 = some (q16 k) ∧ S16 (q16 k) k := by
  have h1 := q16_tab (k + 32).toNat (by omega)
  rw [show (((k + 32).toNat : Nat) : Int) - 32 = k by omega] at h1
  exact ⟨h1.1, h1.2.1, h1.2.2⟩
theorem S16.r {x : Nat} {k : Int} (h : S16 x k) : r32 x = (k : Rat) / 16 := by
  unfold r32
  rw [h.2, cast_pow, show two 149 = two 4 * two 145 from by rw [← two_add], two_num 4 16 rfl]
  have := two_pos 145
  generalize two 145 = P at *
  grind
theorem S16.bs {x : Nat} {k : Int} {e : Nat} (h : S16 x k) (hk : k.natAbs ≤ 2 ^ (4 + e)) : Bs x e := by
  refine ⟨h.1, ?_⟩
  rw [h.2, gNum.k_abs]
  calc k.natAbs * 2 ^ 145 ≤ 2 ^ (4 + e) * 2 ^ 145 := Nat.mul_le_mul_right _ hk
    _ = 2 ^ (149 + e) := by rw [← Nat.pow_add]; congr 1; omega
/-- Sums of sixteenths are exact. -/
theorem add_16 {x y : Nat} {a b : Int} (hx : S16 x a) (hy : S16 y b) (h : (a + b).natAbs ≤ 2 ^ 20) : floatBits .add .f32 x y = some (ba32 x y) ∧ S16 (ba32 x y) (a + b) := by
  obtain ⟨c, c1, c2⟩ := grid32 145 (by omega) (by omega) (a + b) (by omega)
  have hs : V single x + V single y = (a + b) * 2 ^ 145 := by rw [hx.2, hy.2, Int.add_mul]
  have hb : (V single x + V single y).natAbs ≤ mv single (ps 16) := by
    rw [hs, gNum.k_abs, mv_ps]
    calc (a + b).natAbs * 2 ^ 145 ≤ 2 ^ 20 * 2 ^ 145 := Nat.mul_le_mul_right _ h
      _ = 2 ^ (149 + 16) := by rw [← Nat.pow_add]
  obtain ⟨r, hr, hrr⟩ := add_rnd single hx.1 hy.1 (hi := ps 16) (ps_inf (by omega)) hb
  have er : ba32 x y = r := by unfold ba32; rw [show floatBits .add .f32 x y = some r from hr]; rfl
  rw [er]
  exact ⟨hr, hrr.fin, by rw [rnd_exact hrr c1 (by rw [hs, c2]; simp), c2]⟩
/-- A complex number in sixteenths. -/
def fW (g : G) : Nat × Nat := (q16 g.1, q16 g.2)
def InG (g : G) : Prop := (-32 ≤ g.1 ∧ g.1 ≤ 32) ∧ -32 ≤ g.2 ∧ g.2 ≤ 32
theorem fW_ok {g : G} (h : InG g) : S16 (fW g).1 g.1 ∧ S16 (fW g).2 g.2 := ⟨(q16_ok _ h.1).2, (q16_ok _ h.2).2⟩
theorem fW_cb {g : G} (h : InG g) : Cb (fW g) 1 := by
  obtain ⟨a, b⟩ := fW_ok h
  unfold InG at h
  exact ⟨a.bs (by omega), b.bs (by omega)⟩

/-! ## draws -/
theorem run32 {op : BinOp} {x y r : Nat} (h : floatBits op .f32 x y = some r) (ha : arithOp op = true) (w : World) (t : TypeId) : (binOp op t (.float .f32 x) (.float .f32 y)).run Try.prog w = .ok (.float .f32 r) w := by
  rw [run_floatop w op t .f32 x y ha]
  have e1 : fval op .f32 w x y = r := by unfold fval; rw [h]
  have e2 : fcnt op .f32 x y = 0 := by unfold fcnt; rw [h]; rfl
  rw [e1, e2]
  rfl
theorem cvi6432 (w : World) (n : Int) : (convert 2 61 (.int .i64 n)).run Try.prog w = .ok (.float .f32 (floatOfInt .f32 n)) w :=
  run_convert_int_float w _ _ .i64 .f32 n (by rw [Try.underlying2]; rfl) Try.underlying61
attribute [local go_sem] cvi6432
set_option maxHeartbeats 2000000 in
theorem fine_one (A : Option Addr) (c B b m : Nat) (z : List Int) (w : World) (hm : m ≤ 800000) (hl : z.length ≤ 1048576) (hz : Byt z) (hr : Rd w B A z.length (bt z)) (hB : B ≤ b) (hs : Src w b A z.length c m) :
    Calls Try.prog 161 #[.pointer (some ⟨b, 0, none⟩)] w fun e w' => ∃ g : G, InG g ∧ e = .returned (.complex .f32 (fW g).1 (fW g).2) ∧ Src w' b A z.length c (m + 4) ∧ Rd w' B A z.length (bt z) ∧ w.grownBy w' (some b) := by
  have hb := hs.lt
  have hp := pick_is A c B b m z 65 w (by omega) hl hz hr hB hs (by decide) (by decide)
  have HP := Lib.hid hp
  clear hp
  go_enter Try.func161, Try.ntmps161
  go_wp2_with fail
  refine HP.out.mono ?_
  rintro e w1 ⟨v1, v10, v11, rfl, s1, g1⟩
  have R1 : Rd w1 B A z.length (bt z) := hr.kept g1 (by omega) (by intro b' hb' hlt e; injection e with e; omega)
  have hp := pick_is A c B b (m + 2) z 65 w1 (by omega) hl hz R1 hB s1 (by decide) (by decide)
  have HP2 := Lib.hid hp
  have r1 := fun (w : World) => run32 (q16_ok (v1 - 32) (by omega)).1 rfl w 61
  clear hp HP
  go_wp2_with fail
  refine HP2.out.mono ?_
  rintro e w2 ⟨v2, v20, v21, rfl, s2, g2⟩
  have hb1 := s1.lt
  have R2 : Rd w2 B A z.length (bt z) := R1.kept g2 (by omega) (by intro b' hb' hlt e; injection e with e; omega)
  have r2 := fun (w : World) => run32 (q16_ok (v2 - 32) (by omega)).1 rfl w 61
  have HS := Lib.hid (And.intro s2 (And.intro R2 (g1.trans g2)))
  clear HP2 s2 R2 g1 g2 R1 s1 hr hs
  go_wp2_with fail
  go_ret
  exact ⟨(v1 - 32, v2 - 32), by unfold InG; dsimp only; omega, rfl, HS.out.1, HS.out.2.1, HS.out.2.2⟩
theorem snoc_fine (zs : List G) (z : G) (n : Nat) (h : zs.length = n) : lst (ccell (zs.map fW)) n ++ [.complex .f32 (fW z).1 (fW z).2] = lst (ccell ((zs ++ [z]).map fW)) (n + 1) := by
  have := ccell_snoc (zs.map fW) (fW z).1 (fW z).2
  rw [List.map_append, List.map_cons, List.map_nil]
  rw [← h]
  simp only [List.length_append, List.length_map, List.length_cons, List.length_nil, Nat.zero_add] at this
  exact this.symm
set_option maxHeartbeats 2000000 in
set_option maxRecDepth 100000 in
theorem fine_r8 (A : Option Addr) (c : Nat) (z : List Int) (n : Nat) (w : World) (hn : n ≤ 64) (hl : z.length ≤ 1048576) (hz : Byt z) (hr : Rd w w.heap.size A z.length (bt z)) :
    Calls Try.prog 86 #[.slice A z.length c, .int .i64 n] w fun e w' => ∃ (zs : List G) (A' : Option Addr) (c' : Nat), zs.length = n ∧ (∀ x ∈ zs, InG x) ∧ e = .returned (.slice A' n c') ∧ w'.ownsRow w.heap.size 71 1 (.slice A' n c') n (lst (ccell (zs.map fW)) n) ∧ w.grownBy w' none := by
  obtain ⟨i0, hi0, hz0, hz1, hz2⟩ := info_parts infoC
  go_enter Try.func86, Try.ntmps86
  go_wp2_with fail
  refine (from_is A z.length c w).mono ?_
  rintro e w0 ⟨rfl, hs0, hg0⟩
  generalize hb : w.heap.size = b at *
  have hr0 := hr.kept0 hg0 (by omega)
  have hlt := hs0.lt
  clear hr
  go_wp2_with fail
  go_loopw [6, 7] (fun v i wr => ∃ (k : Nat) (zs : List G), k ≤ n ∧ zs.length = k ∧ (∀ x ∈ zs, InG x) ∧ i = .int .i64 k ∧ wr.ownsRow (b + 1) 71 1 v k (lst (ccell (zs.map fW)) k) ∧ Src wr b A z.length c (4 * k) ∧ Rd wr b A z.length (bt z) ∧ w.grownBy wr none) (fun _ i _ => n - (intOf i).toNat)
  case atStart =>
    have ga := World.grownBy_alloc w0 (.cells #[] 71) none
    refine ⟨0, [], Nat.zero_le _, rfl, by simp, rfl, ?_, hs0.keep0 ga, hr0.kept0 ga (by omega), hg0.trans ga⟩
    exact World.ownsRow_lit (base := b + 1) (e := 71) (size := 1) w0 #[] 0 (show b + 1 ≤ w0.heap.size by omega) (Nat.zero_le _) rfl
  case round =>
    obtain ⟨k, zs, hk, hlen, hsm, rfl, hown, hsrc, hrr, hg⟩ := hrel
    by_cases hkt : k < n
    · have hp := fine_one A c b b (4 * k) z wr (by omega) hl hz hrr (Nat.le_refl _) hsrc
      have HP := Lib.hid hp
      have HO := Lib.hid hown
      have HG := Lib.hid hg
      clear hp hown hsrc hrr hg
      go_wp2_with fail
      refine HP.out.mono ?_
      rintro e w2 ⟨g, hgf, rfl, s2, R2, g2⟩
      have G2 := gb_new HG.out g2 (by intro q e; injection e with e; omega)
      have O2 := own_far HO.out g2 (Nat.lt_succ_self b)
      have hb2 := s2.lt
      have hbs : b + 1 ≤ (w2.alloc (.cells #[.complex .f32 (fW g).1 (fW g).2] 71)).heap.size := by simp; omega
      have hsn := snoc_fine zs g k hlen
      have HSN := Lib.hid hsn
      have hne := own_not O2
      have HNE := Lib.hid hne
      have HS2 := Lib.hid s2
      have HG2 := Lib.hid G2
      have HR2 := Lib.hid R2
      have ga := World.grownBy_alloc w2 (.cells #[.complex .f32 (fW g).1 (fW g).2] 71) none
      have HGA := Lib.hid ga
      clear hsn s2 g2 R2 G2 ga hne HO HG HP
      generalize hgw : fW g = GW at *
      go_wp2_with (at_builtin; refine wpList_append_own _ rfl _ _ 68 rfl (b + 1) 71 i0 (.complex .f32 0 0) 1 8 Try.underlying68 hi0 hz0 hz1 hz2 rfl (by decide) _ _ _ rfl (O2.alloc _) ⟨w2.heap.size, 0, none⟩ 1 1 [.complex .f32 GW.1 GW.2] rfl rfl (cell_one_new _ _ _) (cpx_one _ _) (by unfold maxLen; omega) (by omega) hbs ?_; intro v' w4 hown' hgrow _)
      rw [HSN.out] at hown'
      have S4 := (HS2.out.keep0 HGA.out).keep hgrow (fun e => HNE.out e.symm)
      have R4 := (HR2.out.kept0 HGA.out (by omega)).kept hgrow (by simp; omega) (by intro b' hb' hlt e; have := (O2.lt b' e.symm).1; omega)
      have G4 := gb_new (HG2.out.trans HGA.out) hgrow (by intro g e; have := (O2.lt g e).1; omega)
      go_wp2_with fail
      go_roundw
      case rel => exact ⟨k + 1, zs ++ [g], by omega, by simp [hlen], (by intro x hx; rcases List.mem_append.1 hx with h | h; exact hsm x h; rw [List.mem_singleton.1 h]; exact hgf), by go_num, hown', S4.mono (by omega), R4, G4⟩
      case measure => simp [intOf]; omega
    · obtain rfl : k = n := by omega
      obtain ⟨A', c', rfl⟩ := own_form hown
      go_wp2_with fail
      go_ret
      exact ⟨zs, A', c', hlen, hsm, rfl, own_mono hown (by omega), hg⟩

end Go.Proofs.Ytkjmlpdbnnmlhab.fine
