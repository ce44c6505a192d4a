/- A part of the table of sines is right. -/
import Derived.Test.YtpmjheofjmdfeaaSlc
import Derived.Test.YtpmjheofjmdfeaaSmall
import Derived.Test.YtpmjheofjmdfeaaOpens
import Derived.Test.YtpmjheofjmdfeaaFloatAll
import Derived.Test.YtpmjheofjmdfeaaFWalk
import Derived.Test.YtpmjheofjmdfeaaFinWalk
import Derived.Test.YtpmjheofjmdfeaaFlAll
import Derived.Test.YtpmjheofjmdfeaaPhasor
import Derived.Test.YtpmjheofjmdfeaaListC
import Derived.Test.YtpmjheofjmdfeaaSteerNum
import Derived.Test.YtpmjheofjmdfeaaPhDef
namespace Go.Proofs.Ytpmjheofjmdfeaa.phTabA
set_option linter.unusedVariables false
open Go Ieee
open Go.Proofs.Ytpmjheofjmdfeaa.floats Go.Proofs.Ytpmjheofjmdfeaa.round Go.Proofs.Ytpmjheofjmdfeaa.values Go.Proofs.Ytpmjheofjmdfeaa.conv Go.Proofs.Ytpmjheofjmdfeaa.float2 Go.Proofs.Ytpmjheofjmdfeaa.float3 Go.Proofs.Ytpmjheofjmdfeaa.phase Go.Proofs.Ytpmjheofjmdfeaa.phasor Go.Proofs.Ytpmjheofjmdfeaa.steerNum Go.Proofs.Ytpmjheofjmdfeaa.phDef

theorem tab : ∀ k < 257, sn (sx ((k + 0 : Nat) : Int)) = wj (k + 0) := by decide +kernel

end Go.Proofs.Ytpmjheofjmdfeaa.phTabA
