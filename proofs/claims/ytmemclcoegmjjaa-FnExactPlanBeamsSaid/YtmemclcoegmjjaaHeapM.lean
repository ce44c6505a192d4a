/- The methods of a queue, found. -/
import Derived.Test.YtmemclcoegmjjaaRows
import Derived.Test.YtmemclcoegmjjaaSlc
import Derived.Test.YtmemclcoegmjjaaSmall
import Derived.Test.YtmemclcoegmjjaaOpens
import Derived.Test.YtmemclcoegmjjaaHeapN
import Derived.WalkKit
import Derived.ProofKit
import Derived.OpenShut
import Derived.ShutString
import Derived.ChangeOld
import Derived.Below
import Derived.Lib.Hide
import Derived.BigQuiet
import Derived.Deep.QuietTactic
import Derived.WalkLawsBesides
import Derived.Outline
import Derived.Deep.QuietTactic
import Derived.BigQuiet
import Derived.Deep.LoopGhost
namespace Go.Proofs.Ytmemclcoegmjjaa.heapM
open Go.ChangeShapes Go.WideShapes Go.ChangeAt Go.RowKit
open Go.ChangeMaps (open_string shut_string)
set_option linter.unusedVariables false
open Go Go.RowKit
open Go.Proofs.Ytmemclcoegmjjaa.slc Go.Proofs.Ytmemclcoegmjjaa.small Go.Proofs.Ytmemclcoegmjjaa.opens Go.Proofs.Ytmemclcoegmjjaa.heapN

theorem m_push (n : Nat) (a : Addr) (w : World) : (method (n + 1) 187 (.pointer (some a)) "Push").run Try.prog w = .ok (223, .pointer (some a)) w := by kernel_rfl
theorem m_pop (n : Nat) (a : Addr) (w : World) : (method (n + 1) 187 (.pointer (some a)) "Pop").run Try.prog w = .ok (222, .pointer (some a)) w := by kernel_rfl
theorem recv_q {w : World} {a : Addr} {v : Value} (s : String) (h : w.cell? a = some v) : (receiverAt 187 (.val (.pointer (some a))) false (some s)).run Try.prog w = .ok v w := by
  have e : ∀ t, (Builtin.ssaWrapNilChk_ #[t] t #[.pointer (some a), strVal "", strVal s]).run Try.prog w = .ok (.pointer (some a)) w := fun _ => rfl
  unfold receiverAt
  simp [go_sem, Place.get, e, h]
theorem m_of {name : String} {f : FuncId} {w : World} {a : Addr} {v : Value} (hk : ((Try.prog.info? 187).bind (fun i => i.methods.find? (·.name == name))).map (fun m => (m.path.toList, m.path.isEmpty, m.func)) = some ([], true, some (f, false))) (h : w.cell? a = some v) (n : Nat) :
    (method (n + 1) 187 (.pointer (some a)) name).run Try.prog w = .ok (f, v) w := by
  cases hi : Try.prog.info? 187 with
  | none => rw [hi] at hk; cases hk
  | some i =>
    rw [hi] at hk
    cases hm : i.methods.find? (·.name == name) with
    | none => simp [hm] at hk
    | some m =>
      simp only [Option.bind_some, hm, Option.map_some, Option.some.injEq, Prod.mk.injEq] at hk
      obtain ⟨h1, h2, h3⟩ := hk
      have hr := fun s => recv_q (w := w) (a := a) (v := v) s h
      have hp : m.path = #[] := by apply Array.ext'; simpa using h1
      unfold method
      simp [typeInfo, hi, hm, hp, h3, follow, hr]
theorem m_len {w : World} {a : Addr} {v : Value} (h : w.cell? a = some v) (n : Nat) : (method (n + 1) 187 (.pointer (some a)) "Len").run Try.prog w = .ok (219, v) w := m_of (by kernel_rfl) h n
theorem m_less {w : World} {a : Addr} {v : Value} (h : w.cell? a = some v) (n : Nat) : (method (n + 1) 187 (.pointer (some a)) "Less").run Try.prog w = .ok (220, v) w := m_of (by kernel_rfl) h n
theorem m_swap {w : World} {a : Addr} {v : Value} (h : w.cell? a = some v) (n : Nat) : (method (n + 1) 187 (.pointer (some a)) "Swap").run Try.prog w = .ok (221, v) w := m_of (by kernel_rfl) h n
theorem m_any {m : Nat} {t : TypeId} {v : Value} {s : String} {w : World} {r : FuncId × Value} (h : ∀ n, (method (n + 1) t v s).run Try.prog w = .ok r w) (hm : 0 < m) : (method m t v s).run Try.prog w = .ok r w := by
  obtain ⟨n, rfl⟩ : ∃ n, m = n + 1 := ⟨m - 1, by omega⟩
  exact h n

end Go.Proofs.Ytmemclcoegmjjaa.heapM
