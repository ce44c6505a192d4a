/- A part of the table of sines is right. -/
import Derived.Test.YtabbfpjngbiohaaSlc
import Derived.Test.YtabbfpjngbiohaaSmall
import Derived.Test.YtabbfpjngbiohaaOpens
import Derived.Test.YtabbfpjngbiohaaFloats
import Derived.Test.YtabbfpjngbiohaaRound
import Derived.Test.YtabbfpjngbiohaaValues
import Derived.Test.YtabbfpjngbiohaaConv
import Derived.Test.YtabbfpjngbiohaaFWalk
import Derived.Test.YtabbfpjngbiohaaFinWalk
import Derived.Test.YtabbfpjngbiohaaFloat2
import Derived.Test.YtabbfpjngbiohaaFloat3
import Derived.Test.YtabbfpjngbiohaaPhase
import Derived.Test.YtabbfpjngbiohaaSine
import Derived.Test.YtabbfpjngbiohaaPhasor
import Derived.Test.YtabbfpjngbiohaaListC
import Derived.Test.YtabbfpjngbiohaaSteerNum
import Derived.Test.YtabbfpjngbiohaaPhDef
namespace Go.Proofs.Ytabbfpjngbiohaa.phTabD
set_option linter.unusedVariables false
open Go Ieee
open Go.Proofs.Ytabbfpjngbiohaa.floats Go.Proofs.Ytabbfpjngbiohaa.round Go.Proofs.Ytabbfpjngbiohaa.values Go.Proofs.Ytabbfpjngbiohaa.conv Go.Proofs.Ytabbfpjngbiohaa.float2 Go.Proofs.Ytabbfpjngbiohaa.float3 Go.Proofs.Ytabbfpjngbiohaa.phase Go.Proofs.Ytabbfpjngbiohaa.phasor Go.Proofs.Ytabbfpjngbiohaa.steerNum Go.Proofs.Ytabbfpjngbiohaa.phDef

theorem tab : ∀ k < 256, sn (sx ((k + 769 : Nat) : Int)) = wj (k + 769) := by decide +kernel

end Go.Proofs.Ytabbfpjngbiohaa.phTabD
