/- Numbers that the bytes of an input choose. -/
import Derived.Test.YtbefoiikbbjjfaaRows
import Derived.Test.YtbefoiikbbjjfaaSlc
import Derived.WalkKit
import Derived.ProofKit
import Derived.OpenShut
import Derived.ShutString
import Derived.ChangeOld
import Derived.Below
import Derived.Lib.Hide
import Derived.BigQuiet
import Derived.Deep.QuietTactic
import Derived.WalkLawsBesides
import Derived.Outline
import Derived.Deep.QuietTactic
import Derived.BigQuiet
import Derived.Deep.LoopGhost
namespace Go.Proofs.Ytbefoiikbbjjfaa.r8
open Go.ChangeShapes Go.WideShapes Go.ChangeAt Go.RowKit
open Go.ChangeMaps (open_string shut_string)
set_option linter.unusedVariables false
open Go Go.RowKit
open Go.Proofs.Ytbefoiikbbjjfaa.slc

/-- The cells of bytes. -/
def bt (z : List Int) (j : Nat) : Value := .int .u8 (z.getD j 0)
def Byt (z : List Int) : Prop := ∀ x ∈ z, 0 ≤ x ∧ x ≤ 255
theorem Byt.of {z : List Int} (h : ∀ x ∈ z, (Lit.int .u8 x).wf = true) : Byt z := fun x hx => by
  have := h x hx
  simp [Lit.wf, IntKind.min, IntKind.max, IntKind.bits, IntKind.signed] at this
  omega
/-- The number below n that the k-th byte chooses. -/
def r8 (z : List Int) (k n : Int) : Int := if n ≤ 1 ∨ (z.length : Int) ≤ k then 0 else z.getD k.toNat 0 % n
theorem r8_bd {z : List Int} (hz : Byt z) (k n : Int) (hn : 1 ≤ n) : 0 ≤ r8 z k n ∧ r8 z k n < n := by
  unfold r8
  split
  · omega
  · have h0 : 0 ≤ z.getD k.toNat 0 := by
      by_cases h : k.toNat < z.length
      · rw [show z.getD k.toNat 0 = z[k.toNat] by simp [List.getD, h]]
        exact (hz _ (List.getElem_mem h)).1
      · rw [show z.getD k.toNat 0 = 0 by simp [List.getD, h]]
        omega
    exact ⟨Int.emod_nonneg _ (by omega), Int.emod_lt_of_pos _ (by omega)⟩
set_option maxRecDepth 100000 in
theorem r8_at (A : Option Addr) (c B : Nat) (z : List Int) (k : Nat) (n : Int) (w : World) (hm : z.length ≤ 1048576) (hn : 2 ≤ n) (hn2 : n ≤ 1000000) (hz : Byt z) (hr : Rd w B A z.length (bt z)) :
    Calls Try.prog 36 #[.slice A z.length c, .int .i64 k, .int .i64 n] w fun e w' => e = .returned (.int .i64 (r8 z k n)) ∧ w = w' := by
  by_cases hk : k < z.length
  · obtain ⟨ad, rfl, _, hc⟩ := hr.at_ hk
    have hv : r8 z k n = z[k] % n := by
      unfold r8
      rw [if_neg (by omega)]
      simp [List.getD, hk]
    have hb := hz _ (List.getElem_mem hk)
    have hc' : w.cell? (ad.add k) = some (.int .u8 z[k]) := by rw [hc]; unfold bt; simp [List.getD, hk]
    have b1 := hb.1
    have b2 := hb.2
    have t1 := Int.emod_nonneg z[k] (show n ≠ 0 by omega)
    have t2 := Int.emod_lt_of_pos z[k] (show 0 < n by omega)
    have k0 : (0 : Int) ≤ k := by omega
    have k1 : (k : Int) < z.length := by omega
    have HV := Lib.hid hv
    clear hv hc hb
    generalize z[k] = x at *
    go_enter Try.func36, Try.ntmps36
    go_wp2
    go_ret
    exact ⟨by rw [HV.out]; rfl, rfl⟩
  · have hv : r8 z k n = 0 := by unfold r8; rw [if_pos (by omega)]
    have k1 : (z.length : Int) ≤ k := by omega
    rw [hv]
    go_enter Try.func36, Try.ntmps36
    go_wp2
    go_ret
    exact ⟨rfl, rfl⟩
theorem long_no (A A' : Option Addr) (n c m d : Nat) (w : World) (h1 : n ≤ 48) (h2 : m ≤ 48) :
    Calls Try.prog 12 #[.slice A n c, .slice A' m d] w fun e w' => e = .returned (.bool false) ∧ w = w' := by
  have h1' : (n : Int) ≤ 48 := by omega
  have h2' : (m : Int) ≤ 48 := by omega
  go_enter Try.func12, Try.ntmps12
  go_wp2
  go_ret
  simp_all
theorem long_yes (A A' : Option Addr) (n c m d : Nat) (w : World) (h : 48 < n ∨ 48 < m) (hn : n ≤ 9223372036854775807) (hm : m ≤ 9223372036854775807) :
    Calls Try.prog 12 #[.slice A n c, .slice A' m d] w fun e w' => e = .returned (.bool true) ∧ w = w' := by
  by_cases h1 : 48 < n
  · have h1' : (48 : Int) < n := by omega
    clear h
    go_enter Try.func12, Try.ntmps12
    go_wp2
    go_ret
    simp_all
  · have h1' : (n : Int) ≤ 48 := by omega
    have h2' : (48 : Int) < m := by omega
    clear h
    go_enter Try.func12, Try.ntmps12
    go_wp2
    go_ret
    simp_all

end Go.Proofs.Ytbefoiikbbjjfaa.r8
