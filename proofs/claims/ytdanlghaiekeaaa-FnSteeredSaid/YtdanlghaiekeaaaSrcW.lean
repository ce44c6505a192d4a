/- Draws of complex numbers with small integers as parts. -/
import Derived.Test.YtdanlghaiekeaaaRows
import Derived.Test.YtdanlghaiekeaaaSlc
import Derived.Test.YtdanlghaiekeaaaR8
import Derived.Test.YtdanlghaiekeaaaSrc
import Derived.Test.YtdanlghaiekeaaaFloats
import Derived.Test.YtdanlghaiekeaaaRound
import Derived.Test.YtdanlghaiekeaaaValues
import Derived.Test.YtdanlghaiekeaaaConv
import Derived.Test.YtdanlghaiekeaaaFWalk
import Derived.Test.YtdanlghaiekeaaaFinWalk
import Derived.Test.YtdanlghaiekeaaaFloat2
import Derived.Test.YtdanlghaiekeaaaFloat3
import Derived.Test.YtdanlghaiekeaaaPhase
import Derived.Test.YtdanlghaiekeaaaSine
import Derived.Test.YtdanlghaiekeaaaPhasor
import Derived.Test.YtdanlghaiekeaaaListC
import Derived.Test.YtdanlghaiekeaaaSteerNum
import Derived.Test.YtdanlghaiekeaaaSineIn
import Derived.Test.YtdanlghaiekeaaaPolyNum
import Derived.Test.YtdanlghaiekeaaaPolyW
import Derived.Test.YtdanlghaiekeaaaPoly1
import Derived.Test.YtdanlghaiekeaaaGPoly
import Derived.Test.YtdanlghaiekeaaaGNum
import Derived.WalkKit
import Derived.ProofKit
import Derived.OpenShut
import Derived.ShutString
import Derived.ChangeOld
import Derived.Below
import Derived.Lib.Hide
import Derived.BigQuiet
import Derived.Deep.QuietTactic
import Derived.WalkLawsBesides
import Derived.Outline
import Derived.Deep.QuietTactic
import Derived.BigQuiet
import Derived.Deep.LoopGhost
import Derived.Laws.ComplexArith
namespace Go.Proofs.Ytdanlghaiekeaaa.srcW
open Go.ChangeShapes Go.WideShapes Go.ChangeAt Go.RowKit
open Go.ChangeMaps (open_string shut_string)
set_option linter.unusedVariables false
open Go Ieee Go.RowKit
open Go.Proofs.Ytdanlghaiekeaaa.slc Go.Proofs.Ytdanlghaiekeaaa.r8 Go.Proofs.Ytdanlghaiekeaaa.src Go.Proofs.Ytdanlghaiekeaaa.floats Go.Proofs.Ytdanlghaiekeaaa.round Go.Proofs.Ytdanlghaiekeaaa.values Go.Proofs.Ytdanlghaiekeaaa.conv Go.Proofs.Ytdanlghaiekeaaa.fWalk Go.Proofs.Ytdanlghaiekeaaa.phase Go.Proofs.Ytdanlghaiekeaaa.sine Go.Proofs.Ytdanlghaiekeaaa.phasor Go.Proofs.Ytdanlghaiekeaaa.listC Go.Proofs.Ytdanlghaiekeaaa.polyNum Go.Proofs.Ytdanlghaiekeaaa.polyW Go.Proofs.Ytdanlghaiekeaaa.poly1 Go.Proofs.Ytdanlghaiekeaaa.gPoly Go.Proofs.Ytdanlghaiekeaaa.gNum

theorem cvi6432 (w : World) (n : Int) : (convert 2 44 (.int .i64 n)).run Try.prog w = .ok (.float .f32 (floatOfInt .f32 n)) w :=
  run_convert_int_float w _ _ .i64 .f32 n (by rw [Try.underlying2]; rfl) Try.underlying44
attribute [local go_sem] cvi6432

theorem snoc_cells (zs : List G) (z : G) (n : Nat) (h : zs.length = n) : lst (ccell (zs.map gw)) n ++ [.complex .f32 (gw z).1 (gw z).2] = lst (ccell ((zs ++ [z]).map gw)) (n + 1) := by
  have := ccell_snoc (zs.map gw) (gw z).1 (gw z).2
  rw [List.map_append, List.map_cons, List.map_nil]
  rw [← h]
  simp only [List.length_append, List.length_map, List.length_cons, List.length_nil, Nat.zero_add] at this
  exact this.symm
theorem own_far {w w' : World} {base b : Nat} {e : TypeId} {size : Nat} {v : Value} {n : Nat} {xs : List Value} (h : w.ownsRow base e size v n xs) (hg : w.grownBy w' (some b)) (hb : b < base) : w'.ownsRow base e size v n xs :=
  World.ownsRow.kept h hg (.inr (fun e => by
    have := (h.lt b e).1
    omega))
theorem own_not {w : World} {b : Nat} {e : TypeId} {size : Nat} {v : Value} {n : Nat} {xs : List Value} (h : w.ownsRow (b + 1) e size v n xs) : v.ownBlock ≠ some b := fun e => by
  have := (h.lt b e).1
  omega
theorem from_is (A : Option Addr) (n c : Nat) (w : World) : Calls Try.prog 84 #[.slice A n c] w fun e w' => e = .returned (.pointer (some ⟨w.heap.size, 0, none⟩)) ∧ Src w' w.heap.size A n c 0 ∧ w.grownBy w' none := by
  have hs := Src.new w A n c
  have hg := World.grownBy_alloc w (.cells #[.slice A n c, .int .i64 0, .int .u64 0] 162) none
  have HS := Lib.hid hs
  have HG := Lib.hid hg
  clear hs hg
  go_enter Try.func84, Try.ntmps84
  go_wp2_with fail
  go_ret
  exact ⟨rfl, HS.out, HG.out⟩
set_option maxHeartbeats 2000000 in
set_option maxRecDepth 100000 in
theorem whole_is (A : Option Addr) (c : Nat) (z : List Int) (n : Nat) (w : World) (hn : n ≤ 8) (hl : z.length ≤ 1048576) (hz : Byt z) (hr : Rd w w.heap.size A z.length (bt z)) :
    Calls Try.prog 15 #[.slice A z.length c, .int .i64 n] w fun e w' => ∃ (zs : List G) (A' : Option Addr) (c' : Nat), zs.length = n ∧ (∀ x ∈ zs, Small2 x) ∧ e = .returned (.slice A' n c') ∧ w'.ownsRow w.heap.size 30 1 (.slice A' n c') n (lst (ccell (zs.map gw)) n) ∧ w.grownBy w' none := by
  obtain ⟨i0, hi0, hz0, hz1, hz2⟩ := info_parts infoC
  go_enter Try.func15, Try.ntmps15
  go_wp2_with fail
  refine (from_is A z.length c w).mono ?_
  rintro e w0 ⟨rfl, hs0, hg0⟩
  generalize hb : w.heap.size = b at *
  have hr0 := hr.kept0 hg0 (by omega)
  have hlt := hs0.lt
  clear hr
  go_wp2_with fail
  go_loopw [6, 7] (fun v i wr => ∃ (k : Nat) (zs : List G), k ≤ n ∧ zs.length = k ∧ (∀ x ∈ zs, Small2 x) ∧ i = .int .i64 k ∧ wr.ownsRow (b + 1) 30 1 v k (lst (ccell (zs.map gw)) k) ∧ Src wr b A z.length c (4 * k) ∧ Rd wr b A z.length (bt z) ∧ w.grownBy wr none) (fun _ i _ => n - (intOf i).toNat)
  case atStart =>
    have ga := World.grownBy_alloc w0 (.cells #[] 30) none
    refine ⟨0, [], Nat.zero_le _, rfl, by simp, rfl, ?_, hs0.keep0 ga, hr0.kept0 ga (by omega), hg0.trans ga⟩
    exact World.ownsRow_lit (base := b + 1) (e := 30) (size := 1) w0 #[] 0 (show b + 1 ≤ w0.heap.size by omega) (Nat.zero_le _) rfl
  case round =>
    obtain ⟨k, zs, hk, hlen, hsm, rfl, hown, hsrc, hrr, hg⟩ := hrel
    by_cases hkt : k < n
    · have hbr := Nat.le_of_lt hsrc.lt
      have hp := pick_is A c b b (4 * k) z 5 wr (by omega) hl hz hrr (Nat.le_refl _) hsrc (by decide) (by decide)
      have HP := Lib.hid hp
      clear hp
      go_wp2_with fail
      refine HP.out.mono ?_
      rintro e w1 ⟨v1, v10, v11, rfl, s1, g1⟩
      have R1 : Rd w1 b A z.length (bt z) := hrr.kept g1 hbr (by intro b' hb' hlt e; injection e with e; omega)
      have hp := pick_is A c b b (4 * k + 2) z 5 w1 (by omega) hl hz R1 (Nat.le_refl _) s1 (by decide) (by decide)
      have HP2 := Lib.hid hp
      clear hp HP
      go_wp2_with fail
      refine HP2.out.mono ?_
      rintro e w2 ⟨v2, v20, v21, rfl, s2, g2⟩
      clear HP2
      have R2 : Rd w2 b A z.length (bt z) := R1.kept g2 (Nat.le_of_lt s1.lt) (by intro b' hb' hlt e; injection e with e; omega)
      have G2 := gb_new (gb_new hg g1 (by intro g e; injection e with e; omega)) g2 (by intro g e; injection e with e; omega)
      have O2 := own_far (own_far hown g1 (Nat.lt_succ_self b)) g2 (Nat.lt_succ_self b)
      have hb2 := s2.lt
      have hbs : b + 1 ≤ (w2.alloc (.cells #[.complex .f32 (floatOfInt .f32 (v1 - 2)) (floatOfInt .f32 (v2 - 2))] 30)).heap.size := by simp; omega
      have hsn := snoc_cells zs (v1 - 2, v2 - 2) k hlen
      have HSN := Lib.hid hsn
      have hne := own_not O2
      have HNE := Lib.hid hne
      have HS2 := Lib.hid s2
      have HG2 := Lib.hid G2
      have HR2 := Lib.hid R2
      have ga := World.grownBy_alloc w2 (.cells #[.complex .f32 (floatOfInt .f32 (v1 - 2)) (floatOfInt .f32 (v2 - 2))] 30) none
      have HGA := Lib.hid ga
      clear hsn s1 s2 g1 g2 R1 R2 G2 hown hsrc hrr hg ga hne
      go_wp2_with (at_builtin; refine wpList_append_own _ rfl _ _ 24 rfl (b + 1) 30 i0 (.complex .f32 0 0) 1 8 Try.underlying24 hi0 hz0 hz1 hz2 rfl (by decide) _ _ _ rfl (O2.alloc _) ⟨w2.heap.size, 0, none⟩ 1 1 [.complex .f32 (floatOfInt .f32 (v1 - 2)) (floatOfInt .f32 (v2 - 2))] rfl rfl (cell_one_new _ _ _) (cpx_one _ _) (by unfold maxLen; omega) (by omega) hbs ?_; intro v' w4 hown' hgrow _)
      rw [show ((.complex .f32 (floatOfInt .f32 (v1 - 2)) (floatOfInt .f32 (v2 - 2)) : Value)) = .complex .f32 (gw (v1 - 2, v2 - 2)).1 (gw (v1 - 2, v2 - 2)).2 from rfl, HSN.out] at hown'
      have S4 := (HS2.out.keep0 HGA.out).keep hgrow (fun e => HNE.out e.symm)
      have R4 := (HR2.out.kept0 HGA.out (by omega)).kept hgrow (by simp; omega) (by intro b' hb' hlt e; have := (O2.lt b' e.symm).1; omega)
      have G4 := gb_new (HG2.out.trans HGA.out) hgrow (by intro g e; have := (O2.lt g e).1; omega)
      go_wp2_with fail
      go_roundw
      case rel => exact ⟨k + 1, zs ++ [(v1 - 2, v2 - 2)], by omega, by simp [hlen], (by intro x hx; rcases List.mem_append.1 hx with h | h; exact hsm x h; rw [List.mem_singleton.1 h]; unfold Small2; dsimp only; omega), by go_num, hown', S4.mono (by omega), R4, G4⟩
      case measure => simp [intOf]; omega
    · obtain rfl : k = n := by omega
      obtain ⟨A', c', rfl⟩ := own_form hown
      go_wp2_with fail
      go_ret
      exact ⟨zs, A', c', hlen, hsm, rfl, own_mono hown (by omega), hg⟩

end Go.Proofs.Ytdanlghaiekeaaa.srcW
