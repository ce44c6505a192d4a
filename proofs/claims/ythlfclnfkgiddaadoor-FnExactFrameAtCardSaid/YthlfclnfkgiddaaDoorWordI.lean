/- Words of bytes and their numbers, by the program. -/
import Derived.Test.YthlfclnfkgiddaaDoorRows
import Derived.Test.YthlfclnfkgiddaaDoorSlc
import Derived.Test.YthlfclnfkgiddaaDoorSmall
import Derived.Test.YthlfclnfkgiddaaDoorWordN
import Derived.Test.YthlfclnfkgiddaaDoorNumN
import Derived.Test.YthlfclnfkgiddaaDoorWordS
import Derived.WalkKit
import Derived.ProofKit
import Derived.OpenShut
import Derived.ShutString
import Derived.ChangeOld
import Derived.Below
import Derived.Lib.Hide
import Derived.BigQuiet
import Derived.Deep.QuietTactic
import Derived.WalkLawsBesides
import Derived.Outline
import Derived.Deep.QuietTactic
import Derived.BigQuiet
import Derived.Deep.LoopGhost
import Derived.Deep.RegionWith
import Derived.Deep.RegionHeld3
namespace Go.Proofs.YthlfclnfkgiddaaDoor.wordI
open Go.ChangeShapes Go.WideShapes Go.ChangeAt Go.RowKit
open Go.ChangeMaps (open_string shut_string)
set_option linter.unusedVariables false
open Go Go.RowKit
open Go.Proofs.YthlfclnfkgiddaaDoor.slc Go.Proofs.YthlfclnfkgiddaaDoor.small Go.Proofs.YthlfclnfkgiddaaDoor.wordN Go.Proofs.YthlfclnfkgiddaaDoor.numN Go.Proofs.YthlfclnfkgiddaaDoor.wordS

theorem wrap8 (q : Nat) : IntKind.u8.wrap (q : Int) = ((q % 256 : Nat) : Int) := by rw [IntKind.wrap_u8]; omega
/-- A byte of a number, as a cell. -/
def bc (n k : Nat) : Value := .int .u8 ((n / 256 ^ k % 256 : Nat) : Int)
theorem u8s_wb4 (n : Nat) : u8s (wb n 4) = [bc n 0, bc n 1, bc n 2, bc n 3] := by
  unfold u8s wb bc
  simp [List.range_succ]
section
attribute [local go_sem ↓] shr_stop
set_option maxHeartbeats 1000000 in
set_option maxRecDepth 100000 in
theorem wordOf_i (n : Nat) (w : World) (hn : n < 4294967296) : Calls Tryd.prog 112 #[.int .i64 (n : Int)] w fun e w' => e = .returned (.agg #[bc n 0, bc n 1, bc n 2, bc n 3]) ∧ w.grownBy w' none := by
  obtain ⟨q1, e1⟩ : ∃ q, n / 256 ^ 1 = q := ⟨_, rfl⟩
  obtain ⟨q2, e2⟩ : ∃ q, n / 256 ^ 2 = q := ⟨_, rfl⟩
  obtain ⟨q3, e3⟩ : ∃ q, n / 256 ^ 3 = q := ⟨_, rfl⟩
  have s1 : ∀ w, (shrS 2 (.int .i64 (n : Int)) (.int .u64 8)).run Tryd.prog w = .ok (.int .i64 (q1 : Int)) w := fun w => run_shr w 2 n 1 q1 e1 (by omega)
  have s2 : ∀ w, (shrS 2 (.int .i64 (n : Int)) (.int .u64 16)).run Tryd.prog w = .ok (.int .i64 (q2 : Int)) w := fun w => run_shr w 2 n 2 q2 e2 (by omega)
  have s3 : ∀ w, (shrS 2 (.int .i64 (n : Int)) (.int .u64 24)).run Tryd.prog w = .ok (.int .i64 (q3 : Int)) w := fun w => run_shr w 2 n 3 q3 e3 (by omega)
  have hb : bc n 0 = .int .u8 ((n % 256 : Nat) : Int) ∧ bc n 1 = .int .u8 ((q1 % 256 : Nat) : Int) ∧ bc n 2 = .int .u8 ((q2 % 256 : Nat) : Int) ∧ bc n 3 = .int .u8 ((q3 % 256 : Nat) : Int) := by
    unfold bc
    rw [e1, e2, e3]
    simp
  rw [hb.1, hb.2.1, hb.2.2.1, hb.2.2.2]
  have w0 := wrap8 n
  have w1 := wrap8 q1
  have w2 := wrap8 q2
  have w3 := wrap8 q3
  clear hb e1 e2 e3
  generalize n % 256 = b0 at *
  generalize q1 % 256 = b1 at *
  generalize q2 % 256 = b2 at *
  generalize q3 % 256 = b3 at *
  go_enter Tryd.func112, Tryd.ntmps112
  have hrow := World.ownsRow_lit (base := w.heap.size) (e := 5) (size := 1) w #[.int .u8 (b0 : Int), .int .u8 (b1 : Int), .int .u8 (b2 : Int), .int .u8 (b3 : Int)] 4 (Nat.le_refl _) (by decide) rfl
  have HN := Lib.hid (heap_alloc_new w (.cells #[.int .u8 (b0 : Int), .int .u8 (b1 : Int), .int .u8 (b2 : Int), .int .u8 (b3 : Int)] 142))
  have HG := Lib.hid (World.grownBy_alloc w (.cells #[.int .u8 (b0 : Int), .int .u8 (b1 : Int), .int .u8 (b2 : Int), .int .u8 (b3 : Int)] 142) none)
  clear hrow
  go_wp2_with fail
  generalize w.alloc (.cells #[.int .u8 (b0 : Int), .int .u8 (b1 : Int), .int .u8 (b2 : Int), .int .u8 (b3 : Int)] 142) = wx at *
  have c0 := cell_of_row wx _ 0 _ _ _ HN.out
  have c1 := cell_of_row wx _ 1 _ _ _ HN.out
  have c2 := cell_of_row wx _ 2 _ _ _ HN.out
  have c3 := cell_of_row wx _ 3 _ _ _ HN.out
  exact bodyPost_ret (v := .agg #[.int .u8 (b0 : Int), .int .u8 (b1 : Int), .int .u8 (b2 : Int), .int .u8 (b3 : Int)]) (by simp [results, Tryd.results112, go_sem, c0, c1, c2, c3]) rfl ⟨rfl, HG.out⟩
end
set_option maxHeartbeats 1000000 in
set_option maxRecDepth 100000 in
theorem number_i (b0 b1 b2 b3 : Nat) (w : World) (h0 : b0 < 256) (h1 : b1 < 256) (h2 : b2 < 256) (h3 : b3 < 256) : Calls Tryd.prog 144 #[.agg #[.int .u8 (b0 : Int), .int .u8 (b1 : Int), .int .u8 (b2 : Int), .int .u8 (b3 : Int)]] w fun e w' => e = .returned (.int .i64 (b0 + b1 * 256 + b2 * 65536 + b3 * 16777216 : Nat)) ∧ w.grownBy w' none := by
  have o1 : bits .or .i64 (b0 : Int) ((b1 : Int) * 256) = ((b0 + b1 * 256 : Nat) : Int) := by
    have h := or_high b0 b1 8 (by omega) h0 h1
    rw [show b1 * 2 ^ 8 = b1 * 256 from rfl, show ((b1 * 256 : Nat) : Int) = (b1 : Int) * 256 by simp] at h
    exact h
  have o2 : bits .or .i64 ((b0 + b1 * 256 : Nat) : Int) ((b2 : Int) * 65536) = ((b0 + b1 * 256 + b2 * 65536 : Nat) : Int) := by
    have h := or_high (b0 + b1 * 256) b2 16 (by omega) (by show b0 + b1 * 256 < 65536; omega) h2
    rw [show b2 * 2 ^ 16 = b2 * 65536 from rfl, show ((b2 * 65536 : Nat) : Int) = (b2 : Int) * 65536 by simp] at h
    exact h
  have o3 : bits .or .i64 ((b0 + b1 * 256 + b2 * 65536 : Nat) : Int) ((b3 : Int) * 16777216) = ((b0 + b1 * 256 + b2 * 65536 + b3 * 16777216 : Nat) : Int) := by
    have h := or_high (b0 + b1 * 256 + b2 * 65536) b3 24 (by omega) (by show b0 + b1 * 256 + b2 * 65536 < 16777216; omega) h3
    rw [show b3 * 2 ^ 24 = b3 * 16777216 from rfl, show ((b3 * 16777216 : Nat) : Int) = (b3 : Int) * 16777216 by simp] at h
    exact h
  have HO := Lib.hid (And.intro o1 (And.intro o2 o3))
  clear o1 o2 o3
  go_enter Tryd.func144, Tryd.ntmps144
  go_wp2_with fail
  exact bodyPost_ret (v := .int .i64 (bits .or .i64 (bits .or .i64 (bits .or .i64 (b0 : Int) ((b1 : Int) * 256)) ((b2 : Int) * 65536)) ((b3 : Int) * 16777216))) (by simp [results, Tryd.results144, go_sem]) rfl ⟨by rw [HO.out.1, HO.out.2.1, HO.out.2.2], World.grownBy_alloc _ _ _⟩

end Go.Proofs.YthlfclnfkgiddaaDoor.wordI
