/- Queues of jobs in memory: up and down. -/
import Derived.Test.YtmemclcoegmjjaaRows
import Derived.Test.YtmemclcoegmjjaaSlc
import Derived.Test.YtmemclcoegmjjaaSmall
import Derived.Test.YtmemclcoegmjjaaOpens
import Derived.Test.YtmemclcoegmjjaaHeapN
import Derived.Test.YtmemclcoegmjjaaHeapM
import Derived.Test.YtmemclcoegmjjaaHeapW
import Derived.Test.YtmemclcoegmjjaaListDir
import Derived.WalkKit
import Derived.ProofKit
import Derived.OpenShut
import Derived.ShutString
import Derived.ChangeOld
import Derived.Below
import Derived.Lib.Hide
import Derived.BigQuiet
import Derived.Deep.QuietTactic
import Derived.WalkLawsBesides
import Derived.Outline
import Derived.Deep.QuietTactic
import Derived.BigQuiet
import Derived.BigRegion
import Derived.Deep.LoopGhost
import Derived.Deep.RegionHeld3
import Derived.Deep.RegionWith
namespace Go.Proofs.Ytmemclcoegmjjaa.heapU
open Go.ChangeShapes Go.WideShapes Go.ChangeAt Go.RowKit
open Go.ChangeMaps (open_string shut_string)
set_option linter.unusedVariables false
open Go Go.RowKit
open Go.Proofs.Ytmemclcoegmjjaa.slc Go.Proofs.Ytmemclcoegmjjaa.small Go.Proofs.Ytmemclcoegmjjaa.opens Go.Proofs.Ytmemclcoegmjjaa.heapN Go.Proofs.Ytmemclcoegmjjaa.heapM Go.Proofs.Ytmemclcoegmjjaa.heapW

/-- A queue in memory: its cell and its row. -/
structure Qu (w : World) (pb pf : Nat) (L : List Jb) (A : Option Addr) (c : Nat) : Prop where
  cell : w.cell? ⟨pb, pf, none⟩ = some (.slice A L.length c)
  ice : w.frozen? ⟨pb, pf, none⟩ = false
  row : Qr w (pb + 1) L A c
def qv (pb pf : Nat) : Value := .iface 187 (.pointer (some ⟨pb, pf, none⟩))
theorem ice_kept {w w' : World} {p : Addr} (h : w'.heap[p.block]? = w.heap[p.block]?) : w'.frozen? p = w.frozen? p := by simp [World.frozen?, h]
theorem ice_by {w w' : World} {b i : Nat} {row : Option Nat} (hg : w.grownBy w' row) (hb : b < w.heap.size) (hne : some b ≠ row) : w'.frozen? ⟨b, i, none⟩ = w.frozen? ⟨b, i, none⟩ := ice_kept (hg.block b hb hne)
theorem Qu.keep {w w' : World} {pb pf : Nat} {L : List Jb} {A : Option Addr} {c : Nat} (h : Qu w pb pf L A c) (hg : w.grownBy w' none) : Qu w' pb pf L A c :=
  ⟨hg.cell h.cell (by simp), (ice_by hg (World.block_lt_of_cell? w _ h.cell) (by simp)).trans h.ice, own_kept0 h.row hg⟩
theorem far_q {w : World} {pb : Nat} {L : List Jb} {A : Option Addr} {c : Nat} (h : Qr w (pb + 1) L A c) : some pb ≠ A.map Addr.block := fun e => by
  have := (own_base h pb e.symm).1
  omega
set_option maxHeartbeats 1600000 in
set_option maxRecDepth 100000 in
theorem up_c (pb pf n : Nat) (L : List Jb) (A : Option Addr) (c j : Nat) (w : World) (hc : w.cell? ⟨pb, pf, none⟩ = some (.slice A n c)) (hr : Qr w (pb + 1) L A c) (hn : L.length = n) (hj : j < n) (hm : n ≤ 100) :
    Calls Try.prog 166 #[qv pb pf, .int .i64 j] w fun e w' => e = .returned (.tuple #[]) ∧ Qr w' (pb + 1) (upF L j) A c ∧ w.grownBy w' (A.map Addr.block) := by
  unfold qv
  have HR := Lib.hid hr
  clear hr
  go_enter Try.func166, Try.ntmps166
  go_wp2_with fail
  go_loopw [1] (fun i wr => ∃ (k : Nat) (M : List Jb), k < n ∧ i = .int .i64 k ∧ M.length = n ∧ upF M k = upF L j ∧ Qr wr (pb + 1) M A c ∧ w.grownBy wr (A.map Addr.block)) (fun i _ => (intOf i).toNat)
  case atStart => exact ⟨j, L, hj, rfl, hn, rfl, HR.out, World.grownBy.refl _ _⟩
  case round =>
    obtain ⟨k, M, hk, rfl, hM, hup, hq, hg⟩ := hrel
    have hcw := hg.cell hc (far_q hq)
    by_cases hk0 : k = 0
    · subst hk0
      rw [up_zero] at hup
      have HQ := Lib.hid (And.intro hq hg)
      have HU := Lib.hid hup
      clear hq hg hup
      go_wp2_with fail
      refine bodyPost_end (results_none rfl _ _ _) rfl ?_
      rw [← HU.out]
      exact ⟨rfl, HQ.out.1, HQ.out.2⟩
    · obtain ⟨p, hp⟩ : ∃ p, (k - 1) / 2 = p := ⟨_, rfl⟩
      have hpk : p < k := by omega
      have e1 : ((k : Int) - 1) / 2 = (p : Int) := by omega
      have e2 : Int.tdiv ((k : Int) - 1) 2 = (p : Int) := by rw [Int.tdiv_eq_ediv_of_nonneg (by omega)]; exact e1
      have e3 : ¬ (p : Int) = (k : Int) := by omega
      have HL := less_c (pb + 1) M A c k p wr hq (by omega) (by omega) (by omega)
      rw [hM] at HL
      have ml := fun n => m_less (w := wr) hcw n
      have HLE := Lib.hid HL
      have HQ := Lib.hid (And.intro hq hg)
      have HU := Lib.hid hup
      clear hq hg hup HL
      go_wp2_with fail
      refine HLE.out.mono ?_
      rintro e w2 ⟨rfl, g2⟩
      have hq2 : Qr w2 (pb + 1) M A c := own_kept0 HQ.out.1 g2
      have hg2 := HQ.out.2.trans (gb_any g2 _)
      have hc2 := hg2.cell hc (far_q hq2)
      cases hl : lts (jg M k) (jg M p)
      · have HF := Lib.hid (show upF L j = M by rw [← HU.out, up_stop (by rw [hp]; exact hl)])
        clear hc2
        go_wp2_with fail
        refine bodyPost_end (results_none rfl _ _ _) rfl ?_
        rw [HF.out]
        exact ⟨rfl, hq2, hg2⟩
      · have HF := Lib.hid (show upF (swp M p k) p = upF L j by rw [← HU.out, up_go hk0 (by rw [hp]; exact hl), hp])
        have HS := swap_c (pb + 1) M A c p k w2 hq2 (by omega) (by omega) (by omega)
        rw [hM] at HS
        have HS := Lib.hid HS
        have ms := fun n => m_swap (w := w2) hc2 n
        have HG2 := Lib.hid hg2
        clear hq2 hg2 ml hcw g2
        go_wp2_with fail
        refine HS.out.mono ?_
        rintro e w3 ⟨rfl, hq3, g3⟩
        have HE := Lib.hid (And.intro hq3 (HG2.out.trans g3))
        clear hq3 g3 ms hc2
        go_wp2_with fail
        exact ⟨⟨p, swp M p k, by omega, rfl, by rw [swp_len]; exact hM, HF.out, HE.out.1, HE.out.2⟩, by simp [intOf]; omega⟩
set_option maxHeartbeats 3200000 in
set_option maxRecDepth 100000 in
theorem down_c (pb pf n N : Nat) (L : List Jb) (A : Option Addr) (c i0 : Nat) (w : World) (hc : w.cell? ⟨pb, pf, none⟩ = some (.slice A N c)) (hr : Qr w (pb + 1) L A c) (hn : L.length = N) (hnN : n ≤ N) (hi : i0 < N) (hm : N ≤ 100) :
    Calls Try.prog 167 #[qv pb pf, .int .i64 i0, .int .i64 n] w fun e w' => ∃ b : Bool, e = .returned (.bool b) ∧ Qr w' (pb + 1) (downF L i0 n) A c ∧ w.grownBy w' (A.map Addr.block) := by
  unfold qv
  have HR := Lib.hid hr
  clear hr
  go_enter Try.func167, Try.ntmps167
  go_wp2_with fail
  go_loopw [7] (fun i wr => ∃ (k : Nat) (M : List Jb), k < N ∧ i = .int .i64 k ∧ M.length = N ∧ downF M k n = downF L i0 n ∧ Qr wr (pb + 1) M A c ∧ w.grownBy wr (A.map Addr.block)) (fun i _ => N - (intOf i).toNat)
  case atStart => exact ⟨i0, L, hi, rfl, hn, rfl, HR.out, World.grownBy.refl _ _⟩
  case round =>
    obtain ⟨k, M, hk, rfl, hM, hup, hq, hg⟩ := hrel
    have hcw := hg.cell hc (far_q hq)
    obtain ⟨a, ha⟩ : ∃ a : Nat, 2 * k + 1 = a := ⟨_, rfl⟩
    obtain ⟨b, hb⟩ : ∃ b : Nat, a + 1 = b := ⟨_, rfl⟩
    have ea : 2 * (k : Int) + 1 = (a : Int) := by omega
    have eb : (a : Int) + 1 = (b : Int) := by omega
    have a0 : ¬ (a : Int) < 0 := by omega
    have HU := Lib.hid hup
    by_cases h1 : a < n
    · have h1' : ¬ (n : Int) ≤ (a : Int) := by omega
      have h1k : 2 * k + 1 < n := by omega
      have HL2 := Lib.hid (fun (J : Nat) (hJ : J < N) (w2 : World) (hq2 : Qr w2 (pb + 1) M A c) (hc2 : w2.cell? ⟨pb, pf, none⟩ = some (.slice A N c)) => show Calls Try.prog 220 #[.slice A N c, .int .i64 J, .int .i64 k] w2 fun e w' => e = .returned (.bool (lts (jg M J) (jg M k))) ∧ w2.grownBy w' none by
        have h := less_c (pb + 1) M A c J k w2 hq2 (by omega) (by omega) (by omega)
        rw [hM] at h
        exact h)
      clear hup
      by_cases h2 : b < n
      · have h2' : (b : Int) < (n : Int) := by omega
        have HL1 := less_c (pb + 1) M A c b a wr hq (by omega) (by omega) (by omega)
        rw [hM] at HL1
        have HL1 := Lib.hid HL1
        have ml := fun n => m_less (w := wr) hcw n
        have HQ := Lib.hid (And.intro hq hg)
        clear hq hg
        go_wp2_with fail
        refine HL1.out.mono ?_
        rintro e w2 ⟨rfl, g2⟩
        have hq2 : Qr w2 (pb + 1) M A c := own_kept0 HQ.out.1 g2
        have hg2 := HQ.out.2.trans (gb_any g2 _)
        have hc2 := hg2.cell hc (far_q hq2)
        have ml2 := fun n => m_less (w := w2) hc2 n
        clear ml hcw g2
        cases hl1 : lts (jg M b) (jg M a)
        · have hch : ch M k n = a := by unfold ch; rw [show 2 * k + 2 = b by omega, ha, hl1]; simp
          have HCH := Lib.hid hch
          clear hch
          go_wp2_with fail
          refine (HL2.out a (by omega) _ hq2 hc2).mono ?_
          rintro e w3 ⟨rfl, g3⟩
          have hq3 : Qr w3 (pb + 1) M A c := own_kept0 hq2 g3
          have hg3 := hg2.trans (gb_any g3 _)
          have hc3 := hg3.cell hc (far_q hq3)
          cases hl : lts (jg M a) (jg M k)
          · have HF := Lib.hid (show downF L i0 n = M by rw [← HU.out, down_stop (L := M) (i := k) (by rw [HCH.out]; exact hl)])
            clear hc3
            go_wp2_with fail
            go_ret
            rw [HF.out]
            exact ⟨_, rfl, hq3, hg3⟩
          · have HF := Lib.hid (show downF (swp M k a) a n = downF L i0 n by rw [← HU.out, down_go (L := M) (i := k) (by omega) (by rw [HCH.out]; exact hl), HCH.out])
            have HS := swap_c (pb + 1) M A c k a w3 hq3 (by omega) (by omega) (by omega)
            rw [hM] at HS
            have HS := Lib.hid HS
            have ms := fun n => m_swap (w := w3) hc3 n
            have HG3 := Lib.hid hg3
            clear hq3 hg3 g3
            go_wp2_with fail
            refine HS.out.mono ?_
            rintro e w4 ⟨rfl, hq4, g4⟩
            have HE := Lib.hid (And.intro hq4 (HG3.out.trans g4))
            clear hq4 g4 ms hc3
            go_wp2_with fail
            exact ⟨⟨a, swp M k a, by omega, rfl, by rw [swp_len]; exact hM, HF.out, HE.out.1, HE.out.2⟩, by simp [intOf]; omega⟩
        · have hch : ch M k n = b := by unfold ch; rw [show 2 * k + 2 = b by omega, ha, hl1, if_pos ⟨h2, rfl⟩]
          have HCH := Lib.hid hch
          clear hch
          go_wp2_with fail
          refine (HL2.out b (by omega) _ hq2 hc2).mono ?_
          rintro e w3 ⟨rfl, g3⟩
          have hq3 : Qr w3 (pb + 1) M A c := own_kept0 hq2 g3
          have hg3 := hg2.trans (gb_any g3 _)
          have hc3 := hg3.cell hc (far_q hq3)
          cases hl : lts (jg M b) (jg M k)
          · have HF := Lib.hid (show downF L i0 n = M by rw [← HU.out, down_stop (L := M) (i := k) (by rw [HCH.out]; exact hl)])
            clear hc3
            go_wp2_with fail
            go_ret
            rw [HF.out]
            exact ⟨_, rfl, hq3, hg3⟩
          · have HF := Lib.hid (show downF (swp M k b) b n = downF L i0 n by rw [← HU.out, down_go (L := M) (i := k) (by omega) (by rw [HCH.out]; exact hl), HCH.out])
            have HS := swap_c (pb + 1) M A c k b w3 hq3 (by omega) (by omega) (by omega)
            rw [hM] at HS
            have HS := Lib.hid HS
            have ms := fun n => m_swap (w := w3) hc3 n
            have HG3 := Lib.hid hg3
            clear hq3 hg3 g3
            go_wp2_with fail
            refine HS.out.mono ?_
            rintro e w4 ⟨rfl, hq4, g4⟩
            have HE := Lib.hid (And.intro hq4 (HG3.out.trans g4))
            clear hq4 g4 ms hc3
            go_wp2_with fail
            exact ⟨⟨b, swp M k b, by omega, rfl, by rw [swp_len]; exact hM, HF.out, HE.out.1, HE.out.2⟩, by simp [intOf]; omega⟩
      · have h2' : ¬ (b : Int) < (n : Int) := by omega
        have hch : ch M k n = a := by unfold ch; rw [if_neg (by omega)]; exact ha
        have HCH := Lib.hid hch
        have hq2 := hq
        have hg2 := hg
        have hc2 := hcw
        have ml2 := fun n => m_less (w := wr) hcw n
        clear hch hq hg hcw
        go_wp2_with fail
        refine (HL2.out a (by omega) _ hq2 hc2).mono ?_
        rintro e w3 ⟨rfl, g3⟩
        have hq3 : Qr w3 (pb + 1) M A c := own_kept0 hq2 g3
        have hg3 := hg2.trans (gb_any g3 _)
        have hc3 := hg3.cell hc (far_q hq3)
        cases hl : lts (jg M a) (jg M k)
        · have HF := Lib.hid (show downF L i0 n = M by rw [← HU.out, down_stop (L := M) (i := k) (by rw [HCH.out]; exact hl)])
          clear hc3
          go_wp2_with fail
          go_ret
          rw [HF.out]
          exact ⟨_, rfl, hq3, hg3⟩
        · have HF := Lib.hid (show downF (swp M k a) a n = downF L i0 n by rw [← HU.out, down_go (L := M) (i := k) (by omega) (by rw [HCH.out]; exact hl), HCH.out])
          have HS := swap_c (pb + 1) M A c k a w3 hq3 (by omega) (by omega) (by omega)
          rw [hM] at HS
          have HS := Lib.hid HS
          have ms := fun n => m_swap (w := w3) hc3 n
          have HG3 := Lib.hid hg3
          clear hq3 hg3 g3
          go_wp2_with fail
          refine HS.out.mono ?_
          rintro e w4 ⟨rfl, hq4, g4⟩
          have HE := Lib.hid (And.intro hq4 (HG3.out.trans g4))
          clear hq4 g4 ms hc3
          go_wp2_with fail
          exact ⟨⟨a, swp M k a, by omega, rfl, by rw [swp_len]; exact hM, HF.out, HE.out.1, HE.out.2⟩, by simp [intOf]; omega⟩
    · have h1' : (n : Int) ≤ (a : Int) := by omega
      have HF := Lib.hid (show downF L i0 n = M by rw [← hup, down_end (by omega)])
      have HQ := Lib.hid (And.intro hq hg)
      clear hup hq hg hcw
      go_wp2_with fail
      go_ret
      rw [HF.out]
      exact ⟨by by_cases h : i0 < k <;> simp [h], HQ.out.1, HQ.out.2⟩

end Go.Proofs.Ytmemclcoegmjjaa.heapU
