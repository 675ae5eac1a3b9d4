/-
  OUR OWN.
-/
import Derived.Test.YthdjmldddjljfaaGreatDoorH11
import Derived.Test.YthdjmldddjljfaaGreatDoorH05
set_option maxHeartbeats 8000000
set_option maxRecDepth 20000
namespace Go.Proofs.YthdjmldddjljfaaGreatDoor.V
open Go.RowKit
attribute [local go_sem ↓] Go.wp_at_zero Go.wp_at_succ
section
variable {P:Program} (w:World)
end
end Go.Proofs.YthdjmldddjljfaaGreatDoor.V
namespace Go.Proofs.YthdjmldddjljfaaGreatDoor.V
open Go.RowKit
end Go.Proofs.YthdjmldddjljfaaGreatDoor.V
