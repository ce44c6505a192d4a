/- The table of sines: words and values. -/
import Derived.Test.YtdanlghaiekeaaaSlc
import Derived.Test.YtdanlghaiekeaaaSmall
import Derived.Test.YtdanlghaiekeaaaOpens
import Derived.Test.YtdanlghaiekeaaaFloats
import Derived.Test.YtdanlghaiekeaaaRound
import Derived.Test.YtdanlghaiekeaaaValues
import Derived.Test.YtdanlghaiekeaaaConv
import Derived.Test.YtdanlghaiekeaaaFWalk
import Derived.Test.YtdanlghaiekeaaaFinWalk
import Derived.Test.YtdanlghaiekeaaaFloat2
import Derived.Test.YtdanlghaiekeaaaFloat3
import Derived.Test.YtdanlghaiekeaaaPhase
import Derived.Test.YtdanlghaiekeaaaSine
import Derived.Test.YtdanlghaiekeaaaPhasor
import Derived.Test.YtdanlghaiekeaaaListC
import Derived.Test.YtdanlghaiekeaaaSteerNum
import Derived.Test.YtdanlghaiekeaaaPhDef
import Derived.Test.YtdanlghaiekeaaaPhTabA
import Derived.Test.YtdanlghaiekeaaaPhTabB
import Derived.Test.YtdanlghaiekeaaaPhTabC
import Derived.Test.YtdanlghaiekeaaaPhTabD
namespace Go.Proofs.Ytdanlghaiekeaaa.phVal
set_option linter.unusedVariables false
open Go Ieee
open Go.Proofs.Ytdanlghaiekeaaa.floats Go.Proofs.Ytdanlghaiekeaaa.round Go.Proofs.Ytdanlghaiekeaaa.values Go.Proofs.Ytdanlghaiekeaaa.conv Go.Proofs.Ytdanlghaiekeaaa.float2 Go.Proofs.Ytdanlghaiekeaaa.float3 Go.Proofs.Ytdanlghaiekeaaa.phase Go.Proofs.Ytdanlghaiekeaaa.phasor Go.Proofs.Ytdanlghaiekeaaa.steerNum Go.Proofs.Ytdanlghaiekeaaa.phDef

theorem tab (j : Nat) (h : j < 1025) : sn (sx (j : Int)) = wj j := by
  by_cases h1 : j < 257
  · exact phTabA.tab j h1
  · by_cases h2 : j < 513
    · have := phTabB.tab (j - 257) (by omega)
      rwa [show j - 257 + 257 = j by omega] at this
    · by_cases h3 : j < 769
      · have := phTabC.tab (j - 513) (by omega)
        rwa [show j - 513 + 513 = j by omega] at this
      · have := phTabD.tab (j - 769) (by omega)
        rwa [show j - 769 + 769 = j by omega] at this
theorem vals : ∀ j < 1025, V single (nw (wj j)) = (tj j : Int) * 2 ^ 115 ∧ V single (nw (bv .sub 0 (wj j))) = -(tj j : Int) * 2 ^ 115 := by decide +kernel

end Go.Proofs.Ytdanlghaiekeaaa.phVal
