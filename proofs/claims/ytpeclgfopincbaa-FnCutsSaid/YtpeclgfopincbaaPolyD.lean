/- Phases have numbers of at most 2 ^ 5. -/
import Derived.Test.YtpeclgfopincbaaSlc
import Derived.Test.YtpeclgfopincbaaFloatAll
import Derived.Test.YtpeclgfopincbaaFWalk
import Derived.Test.YtpeclgfopincbaaFinWalk
import Derived.Test.YtpeclgfopincbaaFlAll
import Derived.Test.YtpeclgfopincbaaPhasor
import Derived.Test.YtpeclgfopincbaaListC
import Derived.Test.YtpeclgfopincbaaSteerNum
import Derived.Test.YtpeclgfopincbaaSineIn
import Derived.Test.YtpeclgfopincbaaPolyNum
namespace Go.Proofs.Ytpeclgfopincbaa.polyD
set_option linter.unusedVariables false
open Go Ieee
open Go.Proofs.Ytpeclgfopincbaa.floats Go.Proofs.Ytpeclgfopincbaa.round Go.Proofs.Ytpeclgfopincbaa.values Go.Proofs.Ytpeclgfopincbaa.conv Go.Proofs.Ytpeclgfopincbaa.float2 Go.Proofs.Ytpeclgfopincbaa.float3 Go.Proofs.Ytpeclgfopincbaa.phase Go.Proofs.Ytpeclgfopincbaa.phasor Go.Proofs.Ytpeclgfopincbaa.listC Go.Proofs.Ytpeclgfopincbaa.steerNum Go.Proofs.Ytpeclgfopincbaa.sineIn Go.Proofs.Ytpeclgfopincbaa.polyNum

theorem ph_in {f : Nat} (h : In4 f 4) : Bd (ph64 f).1 (D64 + 5) ∧ Bd (ph64 f).2 (D64 + 5) := by
  obtain ⟨j, g, e, hg⟩ := qrun_ok 4 (by omega) 0 f h
  obtain ⟨_, c2⟩ := cos_ok hg
  have s2 := sn_in hg.bd
  have s4 := sn_in c2.bd
  have n2 := neg_in s2 (by omega)
  have n4 := neg_in s4 (by omega)
  have m2 := s2.mono (b := D64 + 5) (by omega)
  have m4 := s4.mono (b := D64 + 5) (by omega)
  unfold ph64 cosine
  rw [e]
  unfold turned
  dsimp only
  split
  · exact ⟨n2, m4⟩
  · split
    · exact ⟨n4, n2⟩
    · split
      · exact ⟨m2, n4⟩
      · exact ⟨m4, m2⟩
theorem phz_in (n : Int) (h : n.natAbs ≤ 524288) : Cb (phz n) 5 := by
  obtain ⟨_, s1, s2, _⟩ := sx_ok n h
  obtain ⟨_, _, _, _, _, _, _, _, hi⟩ := fr_ok s1 s2
  obtain ⟨b1, b2⟩ := ph_in hi
  exact ⟨(nw_is b1 (by omega)).2, (nw_is b2 (by omega)).2⟩
/-- The zeros for the nulls. -/
def nulz (s : Int) (us : List Int) : List (Nat × Nat) := us.map fun u => phz (s * u)
theorem nulz_len (s : Int) (us : List Int) : (nulz s us).length = us.length := by simp [nulz]
theorem nulz_at (s : Int) (us : List Int) (k : Nat) (h : k < us.length) : (nulz s us).getD k (0, 0) = phz (s * us[k]) := by simp [nulz, List.getD, h]
theorem nulz_snoc (s : Int) (us : List Int) (k : Nat) (h : k < us.length) : nulz s (us.take (k + 1)) = nulz s (us.take k) ++ [((phz (s * us[k])).1, (phz (s * us[k])).2)] := by
  unfold nulz; rw [List.take_succ_eq_append_getElem h, List.map_append]; rfl
theorem su_bd {s u : Int} (h1 : 1 ≤ s) (h2 : s ≤ 4096) (h3 : -64 ≤ u) (h4 : u ≤ 64) : (s * u).natAbs ≤ 524288 ∧ -262144 ≤ s * u ∧ s * u ≤ 262144 := by
  have a : s * u ≤ 4096 * 64 := by
    rcases Int.le_total 0 u with h | h
    · exact Int.mul_le_mul h2 h4 h (by omega)
    · have := Int.mul_nonpos_of_nonneg_of_nonpos (show 0 ≤ s by omega) h
      omega
  have b : 4096 * -64 ≤ s * u := by
    rcases Int.le_total 0 u with h | h
    · have := Int.mul_nonneg (show 0 ≤ s by omega) h
      omega
    · have h5 : s * -u ≤ 4096 * 64 := Int.mul_le_mul h2 (by omega) (by omega) (by omega)
      rw [Int.mul_neg] at h5
      omega
  omega
theorem nulz_in (s : Int) (us : List Int) (h1 : 1 ≤ s) (h2 : s ≤ 4096) (hu : ∀ u ∈ us, -64 ≤ u ∧ u ≤ 64) : ∀ k, k < (nulz s us).length → Cb ((nulz s us).getD k (0, 0)) 5 := by
  intro k hk
  rw [nulz_len] at hk
  rw [nulz_at s us k hk]
  have := hu _ (List.getElem_mem hk)
  exact phz_in _ (su_bd h1 h2 this.1 this.2).1

end Go.Proofs.Ytpeclgfopincbaa.polyD
