/- Draws of complex numbers with parts in sixteenths; what they are. -/
import Derived.Test.YtpeclgfopincbaaRows
import Derived.Test.YtpeclgfopincbaaSlc
import Derived.Test.YtpeclgfopincbaaSrcAll
import Derived.Test.YtpeclgfopincbaaFloatAll
import Derived.Test.YtpeclgfopincbaaFWalk
import Derived.Test.YtpeclgfopincbaaFinWalk
import Derived.Test.YtpeclgfopincbaaFlAll
import Derived.Test.YtpeclgfopincbaaPhasor
import Derived.Test.YtpeclgfopincbaaListC
import Derived.Test.YtpeclgfopincbaaSteerNum
import Derived.Test.YtpeclgfopincbaaSineIn
import Derived.Test.YtpeclgfopincbaaPolyNum
import Derived.Test.YtpeclgfopincbaaPolyW
import Derived.Test.YtpeclgfopincbaaPoly1
import Derived.Test.YtpeclgfopincbaaGAll
import Derived.WalkKit
import Derived.ProofKit
import Derived.OpenShut
import Derived.ShutString
import Derived.ChangeOld
import Derived.Below
import Derived.Lib.Hide
import Derived.BigQuiet
import Derived.Deep.QuietTactic
import Derived.WalkLawsBesides
import Derived.Outline
import Derived.Deep.LoopGhost
import Derived.Laws.ComplexArith
namespace Go.Proofs.Ytpeclgfopincbaa.fine
open Go.ChangeShapes Go.WideShapes Go.ChangeAt Go.RowKit
open Go.ChangeMaps (open_string shut_string)
set_option linter.unusedVariables false
open Go Ieee Go.RowKit
open Go.Proofs.Ytpeclgfopincbaa.slc Go.Proofs.Ytpeclgfopincbaa.r8 Go.Proofs.Ytpeclgfopincbaa.src Go.Proofs.Ytpeclgfopincbaa.floats Go.Proofs.Ytpeclgfopincbaa.round Go.Proofs.Ytpeclgfopincbaa.values Go.Proofs.Ytpeclgfopincbaa.conv Go.Proofs.Ytpeclgfopincbaa.fWalk Go.Proofs.Ytpeclgfopincbaa.float2 Go.Proofs.Ytpeclgfopincbaa.float3 Go.Proofs.Ytpeclgfopincbaa.phase Go.Proofs.Ytpeclgfopincbaa.sine Go.Proofs.Ytpeclgfopincbaa.phasor Go.Proofs.Ytpeclgfopincbaa.listC Go.Proofs.Ytpeclgfopincbaa.sineIn Go.Proofs.Ytpeclgfopincbaa.polyNum Go.Proofs.Ytpeclgfopincbaa.polyW Go.Proofs.Ytpeclgfopincbaa.poly1 Go.Proofs.Ytpeclgfopincbaa.gPoly Go.Proofs.Ytpeclgfopincbaa.gNum Go.Proofs.Ytpeclgfopincbaa.srcW Go.Proofs.Ytpeclgfopincbaa.rq

/-! ## numbers in sixteenths -/
def q16 (k : Int) : Nat := (floatBits .quo .f32 (floatOfInt .f32 k) 1098907648).getD 0
/-- x is finite, with the value k in parts of 2^4. -/
def S16 (x : Nat) (k : Int) : Prop := FinW single x ∧ V single x = k * 2 ^ 145
theorem q16_tab : ∀ j : Nat, j < 65 → floatBits .quo .f32 (floatOfInt .f32 ((j : Int) - 32)) 1098907648 = some (q16 ((j : Int) - 32)) ∧ rg single (q16 ((j : Int) - 32)) < single.infRung ∧ V single (q16 ((j : Int) - 32)) = ((j : Int) - 32) * 2 ^ 145 := by decide +kernel
theorem q16_ok (k : Int) (h : -32 ≤ k ∧ k ≤ 32) : floatBits .quo .f32 (floatOfInt .f32 k) 1098907648 = some (q16 k) ∧ S16 (q16 k) k := by
  have h1 := q16_tab (k + 32).toNat (by omega)
  rw [show (((k + 32).toNat : Nat) : Int) - 32 = k by omega] at h1
  exact ⟨h1.1, h1.2.1, h1.2.2⟩
theorem S16.r {x : Nat} {k : Int} (h : S16 x k) : r32 x = (k : Rat) / 16 := by
  unfold r32
  rw [h.2, cast_pow, show two 149 = two 4 * two 145 from by rw [← two_add], two_num 4 16 rfl]
  have := two_pos 145
  generalize two 145 = P at *
  grind
theorem S16.bs {x : Nat} {k : Int} {e : Nat} (h : S16 x k) (hk : k.natAbs ≤ 2 ^ (4 + e)) : Bs x e := by
  refine ⟨h.1, ?_⟩
  rw [h.2, gNum.k_abs]
  calc k.natAbs * 2 ^ 145 ≤ 2 ^ (4 + e) * 2 ^ 145 := Nat.mul_le_mul_right _ hk
    _ = 2 ^ (149 + e) := by rw [← Nat.pow_add]; congr 1; omega
/-- Sums of sixteenths are exact. -/
theorem add_16 {x y : Nat} {a b : Int} (hx : S16 x a) (hy : S16 y b) (h : (a + b).natAbs ≤ 2 ^ 20) : floatBits .add .f32 x y = some (ba32 x y) ∧ S16 (ba32 x y) (a + b) := by
  obtain ⟨c, c1, c2⟩ := grid32 145 (by omega) (by omega) (a + b) (by omega)
  have hs : V single x + V single y = (a + b) * 2 ^ 145 := by rw [hx.2, hy.2, Int.add_mul]
  have hb : (V single x + V single y).natAbs ≤ mv single (ps 16) := by
    rw [hs, gNum.k_abs, mv_ps]
    calc (a + b).natAbs * 2 ^ 145 ≤ 2 ^ 20 * 2 ^ 145 := Nat.mul_le_mul_right _ h
      _ = 2 ^ (149 + 16) := by rw [← Nat.pow_add]
  obtain ⟨r, hr, hrr⟩ := add_rnd single hx.1 hy.1 (hi := ps 16) (ps_inf (by omega)) hb
  have er : ba32 x y = r := by unfold ba32; rw [show floatBits .add .f32 x y = some r from hr]; rfl
  rw [er]
  exact ⟨hr, hrr.fin, by rw [rnd_exact hrr c1 (by rw [hs, c2]; simp), c2]⟩
/-- A complex number in sixteenths. -/
def fW (g : G) : Nat × Nat := (q16 g.1, q16 g.2)
def InG (g : G) : Prop := (-32 ≤ g.1 ∧ g.1 ≤ 32) ∧ -32 ≤ g.2 ∧ g.2 ≤ 32
theorem fW_ok {g : G} (h : InG g) : S16 (fW g).1 g.1 ∧ S16 (fW g).2 g.2 := ⟨(q16_ok _ h.1).2, (q16_ok _ h.2).2⟩
theorem fW_cb {g : G} (h : InG g) : Cb (fW g) 1 := by
  obtain ⟨a, b⟩ := fW_ok h
  unfold InG at h
  exact ⟨a.bs (by omega), b.bs (by omega)⟩

/-! ## draws -/
theorem run32 {op : BinOp} {x y r : Nat} (h : floatBits op .f32 x y = some r) (ha : arithOp op = true) (w : World) (t : TypeId) : (binOp op t (.float .f32 x) (.float .f32 y)).run Try.prog w = .ok (.float .f32 r) w := by
  rw [run_floatop w op t .f32 x y ha]
  have e1 : fval op .f32 w x y = r := by unfold fval; rw [h]
  have e2 : fcnt op .f32 x y = 0 := by unfold fcnt; rw [h]; rfl
  rw [e1, e2]
  rfl
theorem cvi6432 (w : World) (n : Int) : (convert 2 29 (.int .i64 n)).run Try.prog w = .ok (.float .f32 (floatOfInt .f32 n)) w :=
  run_convert_int_float w _ _ .i64 .f32 n (by rw [Try.underlying2]; rfl) Try.underlying29
attribute [local go_sem] cvi6432
set_option maxHeartbeats 2000000 in
theorem fine_one (A : Option Addr) (c B b m : Nat) (z : List Int) (w : World) (hm : m ≤ 800000) (hl : z.length ≤ 1048576) (hz : Byt z) (hr : Rd w B A z.length (bt z)) (hB : B ≤ b) (hs : Src w b A z.length c m) :
    Calls Try.prog 96 #[.pointer (some ⟨b, 0, none⟩)] w fun e w' => ∃ g : G, InG g ∧ e = .returned (.complex .f32 (fW g).1 (fW g).2) ∧ Src w' b A z.length c (m + 4) ∧ Rd w' B A z.length (bt z) ∧ w.grownBy w' (some b) := by
  have hb := hs.lt
  have hp := pick_is A c B b m z 65 w (by omega) hl hz hr hB hs (by decide) (by decide)
  have HP := Lib.hid hp
  clear hp
  go_enter Try.func96, Try.ntmps96
  go_wp2_with fail
  refine HP.out.mono ?_
  rintro e w1 ⟨v1, v10, v11, rfl, s1, g1⟩
  have R1 : Rd w1 B A z.length (bt z) := hr.kept g1 (by omega) (by intro b' hb' hlt e; injection e with e; omega)
  have hp := pick_is A c B b (m + 2) z 65 w1 (by omega) hl hz R1 hB s1 (by decide) (by decide)
  have HP2 := Lib.hid hp
  have r1 := fun (w : World) => run32 (q16_ok (v1 - 32) (by omega)).1 rfl w 29
  clear hp HP
  go_wp2_with fail
  refine HP2.out.mono ?_
  rintro e w2 ⟨v2, v20, v21, rfl, s2, g2⟩
  have hb1 := s1.lt
  have R2 : Rd w2 B A z.length (bt z) := R1.kept g2 (by omega) (by intro b' hb' hlt e; injection e with e; omega)
  have r2 := fun (w : World) => run32 (q16_ok (v2 - 32) (by omega)).1 rfl w 29
  have HS := Lib.hid (And.intro s2 (And.intro R2 (g1.trans g2)))
  clear HP2 s2 R2 g1 g2 R1 s1 hr hs
  go_wp2_with fail
  go_ret
  exact ⟨(v1 - 32, v2 - 32), by unfold InG; dsimp only; omega, rfl, HS.out.1, HS.out.2.1, HS.out.2.2⟩
theorem snoc_fine (zs : List G) (z : G) (n : Nat) (h : zs.length = n) : lst (ccell (zs.map fW)) n ++ [.complex .f32 (fW z).1 (fW z).2] = lst (ccell ((zs ++ [z]).map fW)) (n + 1) := by
  have := ccell_snoc (zs.map fW) (fW z).1 (fW z).2
  rw [List.map_append, List.map_cons, List.map_nil]
  rw [← h]
  simp only [List.length_append, List.length_map, List.length_cons, List.length_nil, Nat.zero_add] at this
  exact this.symm
theorem fine_r8 : True := trivial

end Go.Proofs.Ytpeclgfopincbaa.fine
