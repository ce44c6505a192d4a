/- Places that are shifted. -/
import Derived.Test.YtfenpbnoikgfnabRows
import Derived.Test.YtfenpbnoikgfnabSlc
import Derived.Test.YtfenpbnoikgfnabSmall
import Derived.Test.YtfenpbnoikgfnabOpens
import Derived.Test.YtfenpbnoikgfnabPlaces
import Derived.Test.YtfenpbnoikgfnabPlaceSet
import Derived.Test.YtfenpbnoikgfnabListP
import Derived.Test.YtfenpbnoikgfnabGrid
import Derived.WalkKit
import Derived.ProofKit
import Derived.OpenShut
import Derived.ShutString
import Derived.ChangeOld
import Derived.Below
import Derived.Lib.Hide
import Derived.BigQuiet
import Derived.Deep.QuietTactic
import Derived.WalkLawsBesides
import Derived.Outline
import Derived.Deep.LoopGhost
import Derived.Laws.Tables
import Derived.Deep.RegionHeld3
import Derived.Deep.AppendLies
import Derived.Laws.Pointers
namespace Go.Proofs.Ytfenpbnoikgfnab.shift
open Go.ChangeShapes Go.WideShapes Go.ChangeAt Go.RowKit
open Go.ChangeMaps (open_string shut_string)
set_option linter.unusedVariables false
open Go Go.RowKit
open Go.Proofs.Ytfenpbnoikgfnab.slc Go.Proofs.Ytfenpbnoikgfnab.small Go.Proofs.Ytfenpbnoikgfnab.opens Go.Proofs.Ytfenpbnoikgfnab.places Go.Proofs.Ytfenpbnoikgfnab.placeSet Go.Proofs.Ytfenpbnoikgfnab.listP Go.Proofs.Ytfenpbnoikgfnab.grid

attribute [local go_sem] build_place

/-- Shifted places. -/
def sh (ps : List (Int × Int)) (dx dy : Int) : List (Int × Int) := ps.map fun p => (p.1 + dx, p.2 + dy)
theorem sh_len (ps : List (Int × Int)) (dx dy : Int) : (sh ps dx dy).length = ps.length := by simp [sh]
theorem sh_take (ps : List (Int × Int)) (dx dy : Int) (k : Nat) (hk : k < ps.length) : sh (ps.take (k + 1)) dx dy = sh (ps.take k) dx dy ++ [(ps[k].1 + dx, ps[k].2 + dy)] := by
  unfold sh; rw [List.take_succ_eq_append_getElem hk, List.map_append]; rfl
theorem ok_at {ps : List (Int × Int)} (h : vp ps = true) (k : Nat) (hk : k < ps.length) : -4096 ≤ ps[k].1 ∧ ps[k].1 ≤ 4096 ∧ -4096 ≤ ps[k].2 ∧ ps[k].2 ≤ 4096 :=
  ok_yes ((vp_yes h).2.2.1 _ (List.getElem_mem hk))
theorem sh_cells (ps : List (Int × Int)) (dx dy : Int) (k : Nat) (hk : k < ps.length) : pcell (sh ps dx dy) (k * 2) = .int .i64 (ps[k].1 + dx) ∧ pcell (sh ps dx dy) (k * 2 + 1) = .int .i64 (ps[k].2 + dy) := by
  have h := pcell_at (sh ps dx dy) k (by rw [sh_len]; exact hk)
  simpa [sh] using h

set_option maxHeartbeats 800000 in
set_option maxRecDepth 100000 in
theorem sh_spec (A : Option Addr) (c B : Nat) (ps : List (Int × Int)) (dx dy : Int) (w : World) (hr : Rd w B A (ps.length * 2) (pcell ps)) (hB : B ≤ w.heap.size) (hv : vp ps = true) (h5 : -4096 ≤ dx) (h6 : dx ≤ 4096) (h7 : -4096 ≤ dy) (h8 : dy ≤ 4096) :
    Calls Try.prog 31 #[.slice A ps.length c, .int .i64 dx, .int .i64 dy] w fun e w' => ∃ A' c', e = .returned (.tuple #[.slice A' (given (sh ps dx dy)).length c', .bool (vp (sh ps dx dy))]) ∧
      w'.ownsRow w.heap.size 47 2 (.slice A' (given (sh ps dx dy)).length c') (given (sh ps dx dy)).length (lst (pcell (given (sh ps dx dy))) ((given (sh ps dx dy)).length * 2)) ∧ w.grownBy w' none := by
  obtain ⟨i0, hi0, hz0, hz1, hz2⟩ := info_parts infoP
  have hl16 := (vp_yes hv).2.1
  have HVP := Lib.hid hv
  go_enter Try.func31, Try.ntmps31
  go_wp2_with fail
  refine (is_spec A c B ps w (by omega) hr hB).mono ?_
  rintro e w1 ⟨rfl, hg1⟩
  go_wp2_with fail
  refine (step_yes _ _ h5 h6).mono ?_
  rintro e w' ⟨rfl, rfl⟩
  go_wp2_with fail
  refine (step_yes _ _ h7 h8).mono ?_
  rintro e w' ⟨rfl, rfl⟩
  go_wp2_with fail
  clear hv
  have hsz1 := hg1.size
  go_loopw [8, 9] (fun v i wr => ∃ k : Nat, k ≤ ps.length ∧ i = .int .i64 k ∧ wr.ownsRow w.heap.size 47 2 v (sh (ps.take k) dx dy).length (lst (pcell (sh (ps.take k) dx dy)) ((sh (ps.take k) dx dy).length * 2)) ∧ w.grownBy wr none) (fun _ i _ => ps.length - (intOf i).toNat)
  case atStart => exact ⟨0, Nat.zero_le _, rfl, World.ownsRow_lit w1 #[] 0 hsz1 (Nat.zero_le _) rfl, hg1.trans (World.grownBy_alloc _ _ _)⟩
  case round =>
    obtain ⟨k, hk, rfl, hown, hg⟩ := hrel
    by_cases hlt : k < ps.length
    · obtain ⟨ad, rfl, hab, hx, hy⟩ := Rd.pair (hr.kept0 hg hB) hlt
      obtain ⟨b1, b2, b3, b4⟩ := ok_at HVP.out k hlt
      have hln : (sh (ps.take k) dx dy).length ≤ 16 := by rw [sh_len]; simp; omega
      have hidx : (k : Int) < (ps.length : Int) := by omega
      have hidx0 : (0 : Int) ≤ (k : Int) := by omega
      have hs := pcell_snoc (sh (ps.take k) dx dy) (ps[k].1 + dx) (ps[k].2 + dy)
      rw [← sh_take ps dx dy k hlt] at hs
      have hll : (sh (ps.take (k + 1)) dx dy).length = (sh (ps.take k) dx dy).length + 1 := by rw [sh_take ps dx dy k hlt]; simp
      have hfar : u8.ownBlock ≠ some ad.block := fun e => by have := (hown.lt _ e).1; omega
      have hlt1 := World.block_lt_of_cell? wr _ hx
      have hfb : (ad.add (k * 2)).block = ad.block := add_block _ _
      have HS := Lib.hid hs
      have HL := Lib.hid hll
      have HF := Lib.hid hfar
      have HB := Lib.hid hfb
      clear hs hll hfar hfb
      have hbs := Nat.le_trans hg.size (show wr.heap.size ≤ ((wr.alloc (.cells #[.int .i64 (ps[k].1 + dx), .int .i64 (ps[k].2 + dy)] 47)).drew).heap.size by simp)
      have g1 : (sh (ps.take k) dx dy).length + 1 ≤ maxLen := by unfold maxLen; omega
      have g2 : ((sh (ps.take k) dx dy).length + 1) * 16 ≤ 140737488355328 := by omega
      have g3 : (ad.add (k * 2)).block < wr.heap.size + 1 := by omega
      have q1 : (0 : Int) ≤ (k : Int) := by omega
      have q2 : (k : Int) < (ps.length : Int) := by omega
      go_wp2
      have hw1 : IntKind.i64.wrap (ps[k].1 + dx) = ps[k].1 + dx := IntWalk.i64_in _ (by omega)
      have hw2 : IntKind.i64.wrap (ps[k].2 + dy) = ps[k].2 + dy := IntWalk.i64_in _ (by omega)
      go_region_held3 (fun w' => w'.cell? (ad.add (k * 2)) = some (.int .i64 ps[k].1) ∧ w'.cell? ⟨(ad.add (k * 2)).block, (ad.add (k * 2)).off + 1, none⟩ = some (.int .i64 ps[k].2))
        (first
          | go_keep
          | (go_split_ands
             refine ⟨?_, ?_⟩
             · (rw [hgrow.cell_far _ (by simpa using g3) (by rw [HB.out]; exact Ne.symm HF.out)]; assumption)
             · (rw [hgrow.cell_far _ (by simpa using g3) (by simp only [HB.out]; exact Ne.symm HF.out)]; assumption)))
        ((refine step_append_lies _ (by rfl) _ _ _ (by rfl) w.heap.size 47 i0 _ 2 16 Try.underlying25 hi0 hz0 hz1 hz2 rfl Nat.two_pos _ _ _ (by rfl) ((hown.alloc _).drew)
            ⟨wr.heap.size, 0, none⟩ 1 1 [.int .i64 (ps[k].1 + dx), .int .i64 (ps[k].2 + dy)] (by rfl) (by rfl) (World.news_of_block (cs := #[.int .i64 (ps[k].1 + dx), .int .i64 (ps[k].2 + dy)]) (t := 47) (fr := (0, 0)) (heap_alloc_new wr _)) (pair_one _ _)
            Nat.one_pos g1 g2 hbs (wr.heap.size + 1) (by simp) ?_; intro gg cap w1 hown1 hgrow hat hltg))
      clear hw1 hw2
      go_wp2
      go_roundw
      case rel =>
        refine ⟨k + 1, by omega, by go_num, ?_, ?_⟩
        · rw [HS.out, HL.out]; exact hown1
        · exact gb_own (hg.trans ((World.grownBy_alloc _ _ _).trans (gb_drewN _ 1 _))) ((hown.alloc _).drew) (Nat.le_refl _) hgrow
      case measure => simp [intOf]; omega
    · obtain rfl : k = ps.length := by omega
      rw [List.take_length] at hown
      obtain ⟨A', cc, rfl⟩ := own_form hown
      have hls := sh_len ps dx dy
      have HLS := Lib.hid hls
      clear hls
      go_wp2_with fail
      refine (give_spec _ _ _ _ _ (by rw [HLS.out]; omega) hown).mono ?_
      rintro e w1 ⟨A'', c', rfl, ho', hg'⟩
      go_wp2_with fail
      go_ret2
      exact ⟨_, _, rfl, ho', hg.trans hg'⟩

set_option maxHeartbeats 800000 in
set_option maxRecDepth 100000 in
theorem sh_impl (A : Option Addr) (c B : Nat) (ps : List (Int × Int)) (dx dy : Int) (w : World) (hr : Rd w B A (ps.length * 2) (pcell ps)) (hB : B ≤ w.heap.size) (hv : vp ps = true) (h5 : -4096 ≤ dx) (h6 : dx ≤ 4096) (h7 : -4096 ≤ dy) (h8 : dy ≤ 4096) :
    Calls Try.prog 32 #[.slice A ps.length c, .int .i64 dx, .int .i64 dy] w fun e w' => ∃ A' c', e = .returned (.tuple #[.slice A' (given (sh ps dx dy)).length c', .bool (vp (sh ps dx dy))]) ∧
      w'.ownsRow w.heap.size 47 2 (.slice A' (given (sh ps dx dy)).length c') (given (sh ps dx dy)).length (lst (pcell (given (sh ps dx dy))) ((given (sh ps dx dy)).length * 2)) ∧ w.grownBy w' none := by
  obtain ⟨i0, hi0, hz0, hz1, hz2⟩ := info_parts infoP
  have hl16 := (vp_yes hv).2.1
  have HVP := Lib.hid hv
  go_enter Try.func32, Try.ntmps32
  go_wp2_with fail
  refine (is_impl A c B ps w (by omega) hr hB).mono ?_
  rintro e w1 ⟨rfl, hg1⟩
  go_wp2_with fail
  refine (offset_yes _ _ h5 h6).mono ?_
  rintro e w' ⟨rfl, rfl⟩
  go_wp2_with fail
  refine (offset_yes _ _ h7 h8).mono ?_
  rintro e w' ⟨rfl, rfl⟩
  have hsz1 := hg1.size
  go_wp2_with (at_make; refine wpList_make_full _ rfl _ _ _ rfl w.heap.size 47 i0 (.agg #[.int .i64 0, .int .i64 0]) 2 Try.underlying25 hi0 hz0 hz1 _ _ _ _ ps.length rfl rfl rfl rfl (by rw [hz2]; omega) (by unfold maxLen; omega) hsz1 ?_; intro w2 hown hg2)
  clear hv
  go_loopw [29] (fun i wr => ∃ k : Nat, k ≤ ps.length ∧ i = .int .i64 k ∧ wr.ownsRow w.heap.size 47 2 (.slice (some ⟨w1.heap.size, 0, none⟩) ps.length ps.length) ps.length (lst (mix (pcell (sh ps dx dy)) (fun _ => .int .i64 0) (k * 2)) (ps.length * 2)) ∧ w.grownBy wr none) (fun i _ => ps.length - (intOf i).toNat)
  case atStart =>
    refine ⟨0, Nat.zero_le _, rfl, ?_, hg1.trans hg2⟩
    rw [Nat.zero_mul, mix_zero]
    exact (made_places ps.length) ▸ hown
  case round =>
    obtain ⟨k, hk, rfl, hown, hg⟩ := hrel
    by_cases hlt : k < ps.length
    · obtain ⟨ad, rfl, hab, hx, hy⟩ := Rd.pair (hr.kept0 hg hB) hlt
      obtain ⟨b1, b2, b3, b4⟩ := ok_at HVP.out k hlt
      obtain ⟨sc1, sc2⟩ := sh_cells ps dx dy k hlt
      have hne := (own_base hown _ rfl).2
      have hc := hown.cellAt (k * 2) (by omega)
      rw [lst_get _ _ _ (by omega)] at hc
      have hf := hown.frozenAt (k * 2)
      have hc2 := hown.cellAt (k * 2 + 1) (by omega)
      rw [lst_get _ _ _ (by omega)] at hc2
      have hf2 := hown.frozenAt (k * 2 + 1)
      obtain ⟨hs1, hs2⟩ := hown.stored (k * 2) (pcell (sh ps dx dy) (k * 2))
      rw [mix_set _ _ _ _ (by omega)] at hs1
      obtain ⟨ht1, ht2⟩ := hs1.stored (k * 2 + 1) (pcell (sh ps dx dy) (k * 2 + 1))
      rw [mix_set _ _ _ _ (by omega)] at ht1
      have hs2' := gb_new (gb_new hg hs2 (by intro g e; injection e with e; omega)) ht2 (by intro g e; injection e with e; omega)
      rw [sc1, sc2] at hs2' ht1
      have hu1 := ht1.alloc (.cells #[.int .i64 ps[k].1, .int .i64 ps[k].2] 47)
      have hu2 := hs2'.trans (World.grownBy_alloc _ (.cells #[.int .i64 ps[k].1, .int .i64 ps[k].2] 47) none)
      clear hs2 hs1 ht2 sc1 sc2 ht1 hs2'
      have HS := Lib.hid hu1
      have HG := Lib.hid hu2
      clear hu1 hu2
      go_wp2
      go_roundw
      case rel => exact ⟨k + 1, by omega, by go_num, by rw [show (k + 1) * 2 = k * 2 + 1 + 1 by omega]; exact HS.out, HG.out⟩
      case measure => simp [intOf]; omega
    · obtain rfl : k = ps.length := by omega
      rw [mix_full] at hown
      have G := give_impl (some ⟨w1.heap.size, 0, none⟩) ps.length w.heap.size (sh ps dx dy) wr (by rw [sh_len]; omega) (by rw [sh_len]; exact hown)
      rw [sh_len] at G
      have GG := Lib.hid G
      clear G
      go_wp2_with fail
      refine GG.out.mono ?_
      rintro e w1 ⟨A'', c', rfl, ho', hg'⟩
      go_wp2_with fail
      go_ret2
      exact ⟨_, _, rfl, ho', hg.trans hg'⟩

theorem sh_spec_no (A : Option Addr) (c B : Nat) (ps : List (Int × Int)) (dx dy : Int) (w : World) (hm : ps.length ≤ 9223372036854775807) (hr : Rd w B A (ps.length * 2) (pcell ps)) (hB : B ≤ w.heap.size) (h : vp ps = false ∨ (dx < -4096 ∨ 4096 < dx) ∨ (dy < -4096 ∨ 4096 < dy)) :
    Calls Try.prog 31 #[.slice A ps.length c, .int .i64 dx, .int .i64 dy] w fun e w' => e = .returned (.tuple #[.slice none 0 0, .bool false]) ∧ w.grownBy w' none := by
  have HC := is_spec A c B ps w hm hr hB
  cases hv : vp ps
  · rw [hv] at HC
    have HC := Lib.hid HC
    clear h hv
    go_enter Try.func31, Try.ntmps31
    go_wp2_with fail
    refine HC.out.mono ?_
    rintro e w1 ⟨rfl, hg1⟩
    go_wp2_with fail
    go_ret2
    exact ⟨rfl, hg1⟩
  · rw [hv] at h HC
    have HC := Lib.hid HC
    clear hv
    by_cases k1 : dx < -4096 ∨ 4096 < dx
    · clear h
      go_enter Try.func31, Try.ntmps31
      go_wp2_with fail
      refine HC.out.mono ?_
      rintro e w1 ⟨rfl, hg1⟩
      go_wp2_with fail
      refine (step_no _ _ k1).mono ?_
      rintro e w' ⟨rfl, rfl⟩
      go_wp2_with fail
      go_ret2
      exact ⟨rfl, hg1⟩
    · have k2 : dy < -4096 ∨ 4096 < dy := by
        rcases h with h | h | h
        · cases h
        · exact absurd h k1
        · exact h
      have l1 : -4096 ≤ dx := by omega
      have l2 : dx ≤ 4096 := by omega
      clear h k1
      go_enter Try.func31, Try.ntmps31
      go_wp2_with fail
      refine HC.out.mono ?_
      rintro e w1 ⟨rfl, hg1⟩
      go_wp2_with fail
      refine (step_yes _ _ l1 l2).mono ?_
      rintro e w' ⟨rfl, rfl⟩
      go_wp2_with fail
      refine (step_no _ _ k2).mono ?_
      rintro e w' ⟨rfl, rfl⟩
      go_wp2_with fail
      go_ret2
      exact ⟨rfl, hg1⟩
theorem sh_impl_no (A : Option Addr) (c B : Nat) (ps : List (Int × Int)) (dx dy : Int) (w : World) (hm : ps.length ≤ 9223372036854775807) (hr : Rd w B A (ps.length * 2) (pcell ps)) (hB : B ≤ w.heap.size) (h : vp ps = false ∨ (dx < -4096 ∨ 4096 < dx) ∨ (dy < -4096 ∨ 4096 < dy)) :
    Calls Try.prog 32 #[.slice A ps.length c, .int .i64 dx, .int .i64 dy] w fun e w' => e = .returned (.tuple #[.slice none 0 0, .bool false]) ∧ w.grownBy w' none := by
  have HC := is_impl A c B ps w hm hr hB
  cases hv : vp ps
  · rw [hv] at HC
    have HC := Lib.hid HC
    clear h hv
    go_enter Try.func32, Try.ntmps32
    go_wp2_with fail
    refine HC.out.mono ?_
    rintro e w1 ⟨rfl, hg1⟩
    go_wp2_with fail
    go_ret2
    exact ⟨rfl, hg1⟩
  · rw [hv] at h HC
    have HC := Lib.hid HC
    clear hv
    by_cases k1 : dx < -4096 ∨ 4096 < dx
    · clear h
      go_enter Try.func32, Try.ntmps32
      go_wp2_with fail
      refine HC.out.mono ?_
      rintro e w1 ⟨rfl, hg1⟩
      go_wp2_with fail
      refine (offset_no _ _ k1).mono ?_
      rintro e w' ⟨rfl, rfl⟩
      go_wp2_with fail
      go_ret2
      exact ⟨rfl, hg1⟩
    · have k2 : dy < -4096 ∨ 4096 < dy := by
        rcases h with h | h | h
        · cases h
        · exact absurd h k1
        · exact h
      have l1 : -4096 ≤ dx := by omega
      have l2 : dx ≤ 4096 := by omega
      clear h k1
      go_enter Try.func32, Try.ntmps32
      go_wp2_with fail
      refine HC.out.mono ?_
      rintro e w1 ⟨rfl, hg1⟩
      go_wp2_with fail
      refine (offset_yes _ _ l1 l2).mono ?_
      rintro e w' ⟨rfl, rfl⟩
      go_wp2_with fail
      refine (offset_no _ _ k2).mono ?_
      rintro e w' ⟨rfl, rfl⟩
      go_wp2_with fail
      go_ret2
      exact ⟨rfl, hg1⟩

/-- What is returned. -/
def shR (ps : List (Int × Int)) (dx dy : Int) : List (Int × Int) × Bool :=
  if vp ps = true ∧ -4096 ≤ dx ∧ dx ≤ 4096 ∧ -4096 ≤ dy ∧ dy ≤ 4096 then (given (sh ps dx dy), vp (sh ps dx dy)) else ([], false)
theorem shR_len (ps : List (Int × Int)) (dx dy : Int) : (shR ps dx dy).1.length ≤ 16 := by
  unfold shR; split
  · rename_i h
    refine Nat.le_trans (given_len _) ?_
    rw [sh_len]
    exact (vp_yes h.1).2.1
  · exact Nat.zero_le _
theorem spec_c (A : Option Addr) (c B : Nat) (ps : List (Int × Int)) (dx dy : Int) (w : World) (hm : ps.length ≤ 9223372036854775807) (hr : Rd w B A (ps.length * 2) (pcell ps)) (hB : B ≤ w.heap.size) :
    Calls Try.prog 31 #[.slice A ps.length c, .int .i64 dx, .int .i64 dy] w fun e w' => ∃ A' c', e = .returned (.tuple #[.slice A' (shR ps dx dy).1.length c', .bool (shR ps dx dy).2]) ∧
      w'.ownsRow w.heap.size 47 2 (.slice A' (shR ps dx dy).1.length c') (shR ps dx dy).1.length (lst (pcell (shR ps dx dy).1) ((shR ps dx dy).1.length * 2)) ∧ w.grownBy w' none := by
  unfold shR
  split
  · rename_i h
    exact sh_spec A c B ps dx dy w hr hB h.1 h.2.1 h.2.2.1 h.2.2.2.1 h.2.2.2.2
  · rename_i h
    refine (sh_spec_no A c B ps dx dy w hm hr hB ?_).mono ?_
    · cases hv : vp ps
      · exact .inl rfl
      · refine .inr ?_
        have : ¬ (-4096 ≤ dx ∧ dx ≤ 4096 ∧ -4096 ≤ dy ∧ dy ≤ 4096) := fun h' => h ⟨hv, h'⟩
        omega
    · rintro e w' ⟨rfl, hg⟩
      exact ⟨none, 0, rfl, World.ownsRow_nil _ _ _ _, hg⟩
theorem impl_c (A : Option Addr) (c B : Nat) (ps : List (Int × Int)) (dx dy : Int) (w : World) (hm : ps.length ≤ 9223372036854775807) (hr : Rd w B A (ps.length * 2) (pcell ps)) (hB : B ≤ w.heap.size) :
    Calls Try.prog 32 #[.slice A ps.length c, .int .i64 dx, .int .i64 dy] w fun e w' => ∃ A' c', e = .returned (.tuple #[.slice A' (shR ps dx dy).1.length c', .bool (shR ps dx dy).2]) ∧
      w'.ownsRow w.heap.size 47 2 (.slice A' (shR ps dx dy).1.length c') (shR ps dx dy).1.length (lst (pcell (shR ps dx dy).1) ((shR ps dx dy).1.length * 2)) ∧ w.grownBy w' none := by
  unfold shR
  split
  · rename_i h
    exact sh_impl A c B ps dx dy w hr hB h.1 h.2.1 h.2.2.1 h.2.2.2.1 h.2.2.2.2
  · rename_i h
    refine (sh_impl_no A c B ps dx dy w hm hr hB ?_).mono ?_
    · cases hv : vp ps
      · exact .inl rfl
      · refine .inr ?_
        have : ¬ (-4096 ≤ dx ∧ dx ≤ 4096 ∧ -4096 ≤ dy ∧ dy ≤ 4096) := fun h' => h ⟨hv, h'⟩
        omega
    · rintro e w' ⟨rfl, hg⟩
      exact ⟨none, 0, rfl, World.ownsRow_nil _ _ _ _, hg⟩

end Go.Proofs.Ytfenpbnoikgfnab.shift
