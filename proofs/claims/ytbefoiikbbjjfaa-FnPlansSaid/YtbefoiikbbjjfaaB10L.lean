/- What the laws choose by a byte of their inputs. -/
import Derived.Test.YtbefoiikbbjjfaaRows
import Derived.Test.YtbefoiikbbjjfaaSlc
import Derived.Test.YtbefoiikbbjjfaaSmall
import Derived.Test.YtbefoiikbbjjfaaR8
import Derived.WalkKit
import Derived.ProofKit
import Derived.OpenShut
import Derived.ShutString
import Derived.ChangeOld
import Derived.Below
import Derived.Lib.Hide
import Derived.BigQuiet
import Derived.Deep.QuietTactic
import Derived.WalkLawsBesides
import Derived.Outline
import Derived.Deep.QuietTactic
import Derived.BigQuiet
import Derived.Deep.LoopGhost
namespace Go.Proofs.Ytbefoiikbbjjfaa.b10L
open Go.ChangeShapes Go.WideShapes Go.ChangeAt Go.RowKit
open Go.ChangeMaps (open_string shut_string)
set_option linter.unusedVariables false
open Go Go.RowKit
open Go.Proofs.Ytbefoiikbbjjfaa.slc Go.Proofs.Ytbefoiikbbjjfaa.small Go.Proofs.Ytbefoiikbbjjfaa.r8

/-- The number below n that a byte chooses, or its index behind the end. -/
def b10 (z : List Int) (k : Nat) (n : Int) : Int := if k < z.length then z.getD k 0 % n else ((k : Int) * 37 + 11) % n
theorem b10_bd {z : List Int} (k : Nat) (n : Int) (hn : 1 ≤ n) : 0 ≤ b10 z k n ∧ b10 z k n < n := by
  unfold b10
  split
  · exact ⟨Int.emod_nonneg _ (by omega), Int.emod_lt_of_pos _ (by omega)⟩
  · exact ⟨Int.emod_nonneg _ (by omega), Int.emod_lt_of_pos _ (by omega)⟩
set_option maxRecDepth 100000 in
theorem b10_at (A : Option Addr) (c B : Nat) (z : List Int) (k : Nat) (n : Int) (w : World) (hk16 : k ≤ 1000) (hm : z.length ≤ 1048576) (hn : 2 ≤ n) (hn2 : n ≤ 1000000) (hz : Byt z) (hr : Rd w B A z.length (bt z)) :
    Calls Try.prog 26 #[.slice A z.length c, .int .i64 k, .int .i64 n] w fun e w' => e = .returned (.int .i64 (b10 z k n)) ∧ w = w' := by
  by_cases hk : k < z.length
  · obtain ⟨ad, rfl, _, hc⟩ := hr.at_ hk
    have hv : b10 z k n = z[k] % n := by
      unfold b10
      rw [if_pos hk]
      simp [List.getD, hk]
    have hb := hz _ (List.getElem_mem hk)
    have hc' : w.cell? (ad.add k) = some (.int .u8 z[k]) := by rw [hc]; unfold bt; simp [List.getD, hk]
    have b1 := hb.1
    have b2 := hb.2
    have t1 := Int.emod_nonneg z[k] (show n ≠ 0 by omega)
    have t2 := Int.emod_lt_of_pos z[k] (show 0 < n by omega)
    have k0 : (0 : Int) ≤ k := by omega
    have k1 : (k : Int) < z.length := by omega
    have HV := Lib.hid hv
    clear hv hc hb
    generalize z[k] = x at *
    go_enter Try.func26, Try.ntmps26
    go_wp2
    go_ret
    exact ⟨by rw [HV.out]; rfl, rfl⟩
  · have hv : b10 z k n = ((k : Int) * 37 + 11) % n := by unfold b10; rw [if_neg hk]
    have k1 : ¬ (k : Int) < z.length := by omega
    have t1 := Int.emod_nonneg ((k : Int) * 37 + 11) (show n ≠ 0 by omega)
    have t2 := Int.emod_lt_of_pos ((k : Int) * 37 + 11) (show 0 < n by omega)
    rw [hv]
    go_enter Try.func26, Try.ntmps26
    go_wp2
    go_ret
    exact ⟨rfl, rfl⟩
theorem long_no (A A' : Option Addr) (n c m d : Nat) (w : World) (h1 : n ≤ 1048576) (h2 : m ≤ 1048576) :
    Calls Try.prog 24 #[.slice A n c, .slice A' m d] w fun e w' => e = .returned (.bool false) ∧ w = w' := by
  have h1' : (n : Int) ≤ 1048576 := by omega
  have h2' : (m : Int) ≤ 1048576 := by omega
  go_enter Try.func24, Try.ntmps24
  go_wp2
  go_ret
  simp_all
theorem long_yes (A A' : Option Addr) (n c m d : Nat) (w : World) (h : 1048576 < n ∨ 1048576 < m) (hn : n ≤ 9223372036854775807) (hm : m ≤ 9223372036854775807) :
    Calls Try.prog 24 #[.slice A n c, .slice A' m d] w fun e w' => e = .returned (.bool true) ∧ w = w' := by
  by_cases h1 : 1048576 < n
  · have h1' : (1048576 : Int) < n := by omega
    clear h
    go_enter Try.func24, Try.ntmps24
    go_wp2
    go_ret
    simp_all
  · have h1' : (n : Int) ≤ 1048576 := by omega
    have h2' : (1048576 : Int) < m := by omega
    clear h
    go_enter Try.func24, Try.ntmps24
    go_wp2
    go_ret
    simp_all
theorem b10_one (A : Option Addr) (n c : Nat) (k : Nat) (w : World) :
    Calls Try.prog 26 #[.slice A n c, .int .i64 k, .int .i64 1] w fun e w' => e = .returned (.int .i64 0) ∧ w = w' := by
  go_enter Try.func26, Try.ntmps26
  go_wp2
  go_ret
  exact ⟨rfl, rfl⟩

end Go.Proofs.Ytbefoiikbbjjfaa.b10L
