/- The table of sines: words and values. -/
import Derived.Test.YtabbfpjngbiohaaSlc
import Derived.Test.YtabbfpjngbiohaaSmall
import Derived.Test.YtabbfpjngbiohaaOpens
import Derived.Test.YtabbfpjngbiohaaFloats
import Derived.Test.YtabbfpjngbiohaaRound
import Derived.Test.YtabbfpjngbiohaaValues
import Derived.Test.YtabbfpjngbiohaaConv
import Derived.Test.YtabbfpjngbiohaaFWalk
import Derived.Test.YtabbfpjngbiohaaFinWalk
import Derived.Test.YtabbfpjngbiohaaFloat2
import Derived.Test.YtabbfpjngbiohaaFloat3
import Derived.Test.YtabbfpjngbiohaaPhase
import Derived.Test.YtabbfpjngbiohaaSine
import Derived.Test.YtabbfpjngbiohaaPhasor
import Derived.Test.YtabbfpjngbiohaaListC
import Derived.Test.YtabbfpjngbiohaaSteerNum
import Derived.Test.YtabbfpjngbiohaaPhDef
import Derived.Test.YtabbfpjngbiohaaPhTabA
import Derived.Test.YtabbfpjngbiohaaPhTabB
import Derived.Test.YtabbfpjngbiohaaPhTabC
import Derived.Test.YtabbfpjngbiohaaPhTabD
namespace Go.Proofs.Ytabbfpjngbiohaa.phVal
set_option linter.unusedVariables false
open Go Ieee
open Go.Proofs.Ytabbfpjngbiohaa.floats Go.Proofs.Ytabbfpjngbiohaa.round Go.Proofs.Ytabbfpjngbiohaa.values Go.Proofs.Ytabbfpjngbiohaa.conv Go.Proofs.Ytabbfpjngbiohaa.float2 Go.Proofs.Ytabbfpjngbiohaa.float3 Go.Proofs.Ytabbfpjngbiohaa.phase Go.Proofs.Ytabbfpjngbiohaa.phasor Go.Proofs.Ytabbfpjngbiohaa.steerNum Go.Proofs.Ytabbfpjngbiohaa.phDef

theorem tab (j : Nat) (h : j < 1025) : sn (sx (j : Int)) = wj j := by
  by_cases h1 : j < 257
  · exact phTabA.tab j h1
  · by_cases h2 : j < 513
    · have := phTabB.tab (j - 257) (by omega)
      rwa [show j - 257 + 257 = j by omega] at this
    · by_cases h3 : j < 769
      · have := phTabC.tab (j - 513) (by omega)
        rwa [show j - 513 + 513 = j by omega] at this
      · have := phTabD.tab (j - 769) (by omega)
        rwa [show j - 769 + 769 = j by omega] at this
theorem vals : ∀ j < 1025, V single (nw (wj j)) = (tj j : Int) * 2 ^ 115 ∧ V single (nw (bv .sub 0 (wj j))) = -(tj j : Int) * 2 ^ 115 := by decide +kernel

end Go.Proofs.Ytabbfpjngbiohaa.phVal
