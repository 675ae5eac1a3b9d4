/-
  OUR OWN.
-/
import Derived.Test.YthdjmldddjljfaaGreatDoorG02
import Derived.Deep.RegionHeld3
set_option maxHeartbeats 8000000
set_option maxRecDepth 20000
namespace Go.Proofs.YthdjmldddjljfaaGreatDoor
open Go
section
variable {P:Program} {ops:Array Oper} {Q:Exit→Act→World→Prop} {md:Region.Mode} {S:World→Prop} {n:Nat}
end
end Go.Proofs.YthdjmldddjljfaaGreatDoor
