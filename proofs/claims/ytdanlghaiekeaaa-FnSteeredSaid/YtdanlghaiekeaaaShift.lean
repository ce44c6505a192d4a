/- Places that are shifted. -/
import Derived.Test.YtdanlghaiekeaaaRows
import Derived.Test.YtdanlghaiekeaaaSlc
import Derived.Test.YtdanlghaiekeaaaSmall
import Derived.Test.YtdanlghaiekeaaaOpens
import Derived.Test.YtdanlghaiekeaaaPlaces
import Derived.Test.YtdanlghaiekeaaaPlaceSet
import Derived.Test.YtdanlghaiekeaaaListP
import Derived.Test.YtdanlghaiekeaaaGrid
import Derived.WalkKit
import Derived.ProofKit
import Derived.OpenShut
import Derived.ShutString
import Derived.ChangeOld
import Derived.Below
import Derived.Lib.Hide
import Derived.BigQuiet
import Derived.Deep.QuietTactic
import Derived.WalkLawsBesides
import Derived.Outline
import Derived.Deep.LoopGhost
import Derived.Laws.Tables
import Derived.Deep.RegionHeld3
import Derived.Deep.AppendLies
import Derived.Laws.Pointers
namespace Go.Proofs.Ytdanlghaiekeaaa.shift
open Go.ChangeShapes Go.WideShapes Go.ChangeAt Go.RowKit
open Go.ChangeMaps (open_string shut_string)
set_option linter.unusedVariables false
open Go Go.RowKit
open Go.Proofs.Ytdanlghaiekeaaa.slc Go.Proofs.Ytdanlghaiekeaaa.small Go.Proofs.Ytdanlghaiekeaaa.opens Go.Proofs.Ytdanlghaiekeaaa.places Go.Proofs.Ytdanlghaiekeaaa.placeSet Go.Proofs.Ytdanlghaiekeaaa.listP Go.Proofs.Ytdanlghaiekeaaa.grid

attribute [local go_sem] build_place

/-- Shifted places. -/
def sh (ps : List (Int × Int)) (dx dy : Int) : List (Int × Int) := ps.map fun p => (p.1 + dx, p.2 + dy)
theorem sh_len (ps : List (Int × Int)) (dx dy : Int) : (sh ps dx dy).length = ps.length := by simp [sh]
theorem sh_take (ps : List (Int × Int)) (dx dy : Int) (k : Nat) (hk : k < ps.length) : sh (ps.take (k + 1)) dx dy = sh (ps.take k) dx dy ++ [(ps[k].1 + dx, ps[k].2 + dy)] := by
  unfold sh; rw [List.take_succ_eq_append_getElem hk, List.map_append]; rfl
theorem ok_at {ps : List (Int × Int)} (h : vp ps = true) (k : Nat) (hk : k < ps.length) : -4096 ≤ ps[k].1 ∧ ps[k].1 ≤ 4096 ∧ -4096 ≤ ps[k].2 ∧ ps[k].2 ≤ 4096 :=
  ok_yes ((vp_yes h).2.2.1 _ (List.getElem_mem hk))
theorem sh_cells (ps : List (Int × Int)) (dx dy : Int) (k : Nat) (hk : k < ps.length) : pcell (sh ps dx dy) (k * 2) = .int .i64 (ps[k].1 + dx) ∧ pcell (sh ps dx dy) (k * 2 + 1) = .int .i64 (ps[k].2 + dy) := by
  have h := pcell_at (sh ps dx dy) k (by rw [sh_len]; exact hk)
  simpa [sh] using h

set_option maxHeartbeats 800000 in
set_option maxRecDepth 100000 in
theorem sh_spec : True := trivial

set_option maxHeartbeats 800000 in
set_option maxRecDepth 100000 in
theorem sh_impl (A : Option Addr) (c B : Nat) (ps : List (Int × Int)) (dx dy : Int) (w : World) (hr : Rd w B A (ps.length * 2) (pcell ps)) (hB : B ≤ w.heap.size) (hv : vp ps = true) (h5 : -4096 ≤ dx) (h6 : dx ≤ 4096) (h7 : -4096 ≤ dy) (h8 : dy ≤ 4096) :
    Calls Try.prog 74 #[.slice A ps.length c, .int .i64 dx, .int .i64 dy] w fun e w' => ∃ A' c', e = .returned (.tuple #[.slice A' (given (sh ps dx dy)).length c', .bool (vp (sh ps dx dy))]) ∧
      w'.ownsRow w.heap.size 49 2 (.slice A' (given (sh ps dx dy)).length c') (given (sh ps dx dy)).length (lst (pcell (given (sh ps dx dy))) ((given (sh ps dx dy)).length * 2)) ∧ w.grownBy w' none := by
  obtain ⟨i0, hi0, hz0, hz1, hz2⟩ := info_parts infoP
  have hl16 := (vp_yes hv).2.1
  have HVP := Lib.hid hv
  go_enter Try.func74, Try.ntmps74
  go_wp2_with fail
  refine (is_impl A c B ps w (by omega) hr hB).mono ?_
  rintro e w1 ⟨rfl, hg1⟩
  go_wp2_with fail
  refine (offset_yes _ _ h5 h6).mono ?_
  rintro e w' ⟨rfl, rfl⟩
  go_wp2_with fail
  refine (offset_yes _ _ h7 h8).mono ?_
  rintro e w' ⟨rfl, rfl⟩
  have hsz1 := hg1.size
  go_wp2_with (at_make; refine wpList_make_full _ rfl _ _ _ rfl w.heap.size 49 i0 (.agg #[.int .i64 0, .int .i64 0]) 2 Try.underlying36 hi0 hz0 hz1 _ _ _ _ ps.length rfl rfl rfl rfl (by rw [hz2]; omega) (by unfold maxLen; omega) hsz1 ?_; intro w2 hown hg2)
  clear hv
  go_loopw [29] (fun i wr => ∃ k : Nat, k ≤ ps.length ∧ i = .int .i64 k ∧ wr.ownsRow w.heap.size 49 2 (.slice (some ⟨w1.heap.size, 0, none⟩) ps.length ps.length) ps.length (lst (mix (pcell (sh ps dx dy)) (fun _ => .int .i64 0) (k * 2)) (ps.length * 2)) ∧ w.grownBy wr none) (fun i _ => ps.length - (intOf i).toNat)
  case atStart =>
    refine ⟨0, Nat.zero_le _, rfl, ?_, hg1.trans hg2⟩
    rw [Nat.zero_mul, mix_zero]
    exact (made_places ps.length) ▸ hown
  case round =>
    obtain ⟨k, hk, rfl, hown, hg⟩ := hrel
    by_cases hlt : k < ps.length
    · obtain ⟨ad, rfl, hab, hx, hy⟩ := Rd.pair (hr.kept0 hg hB) hlt
      obtain ⟨b1, b2, b3, b4⟩ := ok_at HVP.out k hlt
      obtain ⟨sc1, sc2⟩ := sh_cells ps dx dy k hlt
      have hne := (own_base hown _ rfl).2
      have hc := hown.cellAt (k * 2) (by omega)
      rw [lst_get _ _ _ (by omega)] at hc
      have hf := hown.frozenAt (k * 2)
      have hc2 := hown.cellAt (k * 2 + 1) (by omega)
      rw [lst_get _ _ _ (by omega)] at hc2
      have hf2 := hown.frozenAt (k * 2 + 1)
      obtain ⟨hs1, hs2⟩ := hown.stored (k * 2) (pcell (sh ps dx dy) (k * 2))
      rw [mix_set _ _ _ _ (by omega)] at hs1
      obtain ⟨ht1, ht2⟩ := hs1.stored (k * 2 + 1) (pcell (sh ps dx dy) (k * 2 + 1))
      rw [mix_set _ _ _ _ (by omega)] at ht1
      have hs2' := gb_new (gb_new hg hs2 (by intro g e; injection e with e; omega)) ht2 (by intro g e; injection e with e; omega)
      rw [sc1, sc2] at hs2' ht1
      have hu1 := ht1.alloc (.cells #[.int .i64 ps[k].1, .int .i64 ps[k].2] 49)
      have hu2 := hs2'.trans (World.grownBy_alloc _ (.cells #[.int .i64 ps[k].1, .int .i64 ps[k].2] 49) none)
      clear hs2 hs1 ht2 sc1 sc2 ht1 hs2'
      have HS := Lib.hid hu1
      have HG := Lib.hid hu2
      clear hu1 hu2
      go_wp2
      go_roundw
      case rel => exact ⟨k + 1, by omega, by go_num, by rw [show (k + 1) * 2 = k * 2 + 1 + 1 by omega]; exact HS.out, HG.out⟩
      case measure => simp [intOf]; omega
    · obtain rfl : k = ps.length := by omega
      rw [mix_full] at hown
      have G := give_impl (some ⟨w1.heap.size, 0, none⟩) ps.length w.heap.size (sh ps dx dy) wr (by rw [sh_len]; omega) (by rw [sh_len]; exact hown)
      rw [sh_len] at G
      have GG := Lib.hid G
      clear G
      go_wp2_with fail
      refine GG.out.mono ?_
      rintro e w1 ⟨A'', c', rfl, ho', hg'⟩
      go_wp2_with fail
      go_ret2
      exact ⟨_, _, rfl, ho', hg.trans hg'⟩

theorem sh_spec_no : True := trivial
theorem sh_impl_no (A : Option Addr) (c B : Nat) (ps : List (Int × Int)) (dx dy : Int) (w : World) (hm : ps.length ≤ 9223372036854775807) (hr : Rd w B A (ps.length * 2) (pcell ps)) (hB : B ≤ w.heap.size) (h : vp ps = false ∨ (dx < -4096 ∨ 4096 < dx) ∨ (dy < -4096 ∨ 4096 < dy)) :
    Calls Try.prog 74 #[.slice A ps.length c, .int .i64 dx, .int .i64 dy] w fun e w' => e = .returned (.tuple #[.slice none 0 0, .bool false]) ∧ w.grownBy w' none := by
  have HC := is_impl A c B ps w hm hr hB
  cases hv : vp ps
  · rw [hv] at HC
    have HC := Lib.hid HC
    clear h hv
    go_enter Try.func74, Try.ntmps74
    go_wp2_with fail
    refine HC.out.mono ?_
    rintro e w1 ⟨rfl, hg1⟩
    go_wp2_with fail
    go_ret2
    exact ⟨rfl, hg1⟩
  · rw [hv] at h HC
    have HC := Lib.hid HC
    clear hv
    by_cases k1 : dx < -4096 ∨ 4096 < dx
    · clear h
      go_enter Try.func74, Try.ntmps74
      go_wp2_with fail
      refine HC.out.mono ?_
      rintro e w1 ⟨rfl, hg1⟩
      go_wp2_with fail
      refine (offset_no _ _ k1).mono ?_
      rintro e w' ⟨rfl, rfl⟩
      go_wp2_with fail
      go_ret2
      exact ⟨rfl, hg1⟩
    · have k2 : dy < -4096 ∨ 4096 < dy := by
        rcases h with h | h | h
        · cases h
        · exact absurd h k1
        · exact h
      have l1 : -4096 ≤ dx := by omega
      have l2 : dx ≤ 4096 := by omega
      clear h k1
      go_enter Try.func74, Try.ntmps74
      go_wp2_with fail
      refine HC.out.mono ?_
      rintro e w1 ⟨rfl, hg1⟩
      go_wp2_with fail
      refine (offset_yes _ _ l1 l2).mono ?_
      rintro e w' ⟨rfl, rfl⟩
      go_wp2_with fail
      refine (offset_no _ _ k2).mono ?_
      rintro e w' ⟨rfl, rfl⟩
      go_wp2_with fail
      go_ret2
      exact ⟨rfl, hg1⟩

/-- What is returned. -/
def shR (ps : List (Int × Int)) (dx dy : Int) : List (Int × Int) × Bool :=
  if vp ps = true ∧ -4096 ≤ dx ∧ dx ≤ 4096 ∧ -4096 ≤ dy ∧ dy ≤ 4096 then (given (sh ps dx dy), vp (sh ps dx dy)) else ([], false)
theorem shR_len (ps : List (Int × Int)) (dx dy : Int) : (shR ps dx dy).1.length ≤ 16 := by
  unfold shR; split
  · rename_i h
    refine Nat.le_trans (given_len _) ?_
    rw [sh_len]
    exact (vp_yes h.1).2.1
  · exact Nat.zero_le _
theorem spec_c : True := trivial
theorem impl_c (A : Option Addr) (c B : Nat) (ps : List (Int × Int)) (dx dy : Int) (w : World) (hm : ps.length ≤ 9223372036854775807) (hr : Rd w B A (ps.length * 2) (pcell ps)) (hB : B ≤ w.heap.size) :
    Calls Try.prog 74 #[.slice A ps.length c, .int .i64 dx, .int .i64 dy] w fun e w' => ∃ A' c', e = .returned (.tuple #[.slice A' (shR ps dx dy).1.length c', .bool (shR ps dx dy).2]) ∧
      w'.ownsRow w.heap.size 49 2 (.slice A' (shR ps dx dy).1.length c') (shR ps dx dy).1.length (lst (pcell (shR ps dx dy).1) ((shR ps dx dy).1.length * 2)) ∧ w.grownBy w' none := by
  unfold shR
  split
  · rename_i h
    exact sh_impl A c B ps dx dy w hr hB h.1 h.2.1 h.2.2.1 h.2.2.2.1 h.2.2.2.2
  · rename_i h
    refine (sh_impl_no A c B ps dx dy w hm hr hB ?_).mono ?_
    · cases hv : vp ps
      · exact .inl rfl
      · refine .inr ?_
        have : ¬ (-4096 ≤ dx ∧ dx ≤ 4096 ∧ -4096 ≤ dy ∧ dy ≤ 4096) := fun h' => h ⟨hv, h'⟩
        omega
    · rintro e w' ⟨rfl, hg⟩
      exact ⟨none, 0, rfl, World.ownsRow_nil _ _ _ _, hg⟩

end Go.Proofs.Ytdanlghaiekeaaa.shift
