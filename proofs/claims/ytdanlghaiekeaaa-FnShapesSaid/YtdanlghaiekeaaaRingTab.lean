/- Phases of a turn's parts as numbers. -/
import Derived.Test.YtdanlghaiekeaaaRows
import Derived.Test.YtdanlghaiekeaaaSlc
import Derived.Test.YtdanlghaiekeaaaSmall
import Derived.Test.YtdanlghaiekeaaaOpens
import Derived.Test.YtdanlghaiekeaaaPlaces
import Derived.Test.YtdanlghaiekeaaaFloats
import Derived.Test.YtdanlghaiekeaaaRound
import Derived.Test.YtdanlghaiekeaaaValues
import Derived.Test.YtdanlghaiekeaaaConv
import Derived.Test.YtdanlghaiekeaaaFWalk
import Derived.Test.YtdanlghaiekeaaaFinWalk
import Derived.Test.YtdanlghaiekeaaaFloat2
import Derived.Test.YtdanlghaiekeaaaFloat3
import Derived.Test.YtdanlghaiekeaaaPhase
import Derived.Test.YtdanlghaiekeaaaSine
import Derived.Test.YtdanlghaiekeaaaPhasor
import Derived.Test.YtdanlghaiekeaaaListC
import Derived.Test.YtdanlghaiekeaaaSteerNum
import Derived.Test.YtdanlghaiekeaaaRingNum
import Derived.Test.YtdanlghaiekeaaaSineIn
import Derived.Test.YtdanlghaiekeaaaPolyNum
import Derived.Test.YtdanlghaiekeaaaGPoly
import Derived.Test.YtdanlghaiekeaaaGNum
import Derived.WalkKit
import Derived.ProofKit
import Derived.OpenShut
import Derived.ShutString
import Derived.ChangeOld
import Derived.Below
import Derived.Lib.Hide
import Derived.BigQuiet
import Derived.Deep.QuietTactic
import Derived.WalkLawsBesides
import Derived.Outline
namespace Go.Proofs.Ytdanlghaiekeaaa.ringTab
open Go.ChangeShapes Go.WideShapes Go.ChangeAt Go.RowKit
open Go.ChangeMaps (open_string shut_string)
set_option linter.unusedVariables false
open Go Ieee
open Go.Proofs.Ytdanlghaiekeaaa.places Go.Proofs.Ytdanlghaiekeaaa.floats Go.Proofs.Ytdanlghaiekeaaa.round Go.Proofs.Ytdanlghaiekeaaa.values Go.Proofs.Ytdanlghaiekeaaa.conv Go.Proofs.Ytdanlghaiekeaaa.fWalk Go.Proofs.Ytdanlghaiekeaaa.finWalk Go.Proofs.Ytdanlghaiekeaaa.float2 Go.Proofs.Ytdanlghaiekeaaa.float3 Go.Proofs.Ytdanlghaiekeaaa.phase Go.Proofs.Ytdanlghaiekeaaa.sine Go.Proofs.Ytdanlghaiekeaaa.phasor Go.Proofs.Ytdanlghaiekeaaa.listC Go.Proofs.Ytdanlghaiekeaaa.steerNum Go.Proofs.Ytdanlghaiekeaaa.ringNum Go.Proofs.Ytdanlghaiekeaaa.polyNum Go.Proofs.Ytdanlghaiekeaaa.gPoly Go.Proofs.Ytdanlghaiekeaaa.gNum

/-- Phases of a turn's parts, in parts of 2^30. -/
def lit : List (List (Int × Int)) := [[],
  [(1073741824, 0)],
  [(1073741824, 0), (-1073741824, 0)],
  [(1073741824, 0), (-536870912, 929887680), (-536870912, -929887680)],
  [(1073741824, 0), (0, 1073741824), (-1073741824, 0), (0, -1073741824)],
  [(1073741824, 0), (331804480, 1021189184), (-868675392, 631129600), (-868675392, -631129600), (331804480, -1021189184)],
  [(1073741824, 0), (536870912, 929887680), (-536870912, 929887680), (-1073741824, 0), (-536870912, -929887680), (536870912, -929887680)],
  [(1073741824, 0), (669467072, 839485184), (-238930032, 1046820864), (-967407936, 465879104), (-967407936, -465879104), (-238930032, -1046820864), (669467072, -839485184)],
  [(1073741824, 0), (759250112, 759250112), (0, 1073741824), (-759250112, 759250112), (-1073741824, 0), (-759250112, -759250112), (0, -1073741824), (759250112, -759250112)],
  [(1073741824, 0), (822533952, 690187968), (186453312, 1057429248), (-536870912, 929887680), (-1008987264, 367241344), (-1008987264, -367241344), (-536870912, -929887680), (186453312, -1057429248), (822533952, -690187968)],
  [(1073741824, 0), (868675392, 631129600), (331804480, 1021189184), (-331804480, 1021189184), (-868675392, 631129600), (-1073741824, 0), (-868675392, -631129600), (-331804480, -1021189184), (331804480, -1021189184), (868675392, -631129600)],
  [(1073741824, 0), (903289088, 580508672), (446048480, 976709888), (-152809392, 1062812672), (-703151360, 811479936), (-1030247744, 302508032), (-1030247744, -302508032), (-703151360, -811479936), (-152809392, -1062812672), (446048480, -976709888), (903289088, -580508672)],
  [(1073741824, 0), (929887680, 536870912), (536870912, 929887680), (0, 1073741824), (-536870912, 929887680), (-929887680, 536870912), (-1073741824, 0), (-929887680, -536870912), (-536870912, -929887680), (0, -1073741824), (536870912, -929887680), (929887680, -536870912)]]
def E44 : Nat := 1044
def tb (c k : Nat) : Int × Int := (lit.getD c []).getD k (0, 0)
def phv (c k : Nat) : Nat × Nat := phx (kq (k : Int) (c : Int))
theorem tab_ok : ∀ c < 13, ∀ k < c, V double (wd (phv c k).1) = (tb c k).1 * 2 ^ E44 ∧ V double (wd (phv c k).2) = (tb c k).2 * 2 ^ E44 := by decide +kernel
theorem tab_num : ∀ c < 13, ∀ k < c, (((tb c k).1 * (tb c k).1 + (tb c k).2 * (tb c k).2 - 2 ^ 60).natAbs * 1000000 ≤ 2 ^ 60) ∧ ((tb c k).1.natAbs + (tb c k).2.natAbs) * 1000 ≤ 1415 * 2 ^ 30 := by decide +kernel
theorem tab_apart : ∀ c < 13, ∀ k < c, ∀ j < k, 2 ^ 30 ≤ 10 * ((tb c k).1 - (tb c j).1).natAbs ∨ 2 ^ 30 ≤ 10 * ((tb c k).2 - (tb c j).2).natAbs := by decide +kernel
theorem tab_first : ∀ c < 13, 1 ≤ c → tb c 0 = (1073741824, 0) := by decide +kernel

end Go.Proofs.Ytdanlghaiekeaaa.ringTab
