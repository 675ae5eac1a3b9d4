/-
  OUR OWN.
-/
import Derived.Test.YthdjmldddjljfaaGreatDoorH10
import Derived.Lib.Strings
set_option maxHeartbeats 8000000
set_option maxRecDepth 20000
namespace Go.Proofs.YthdjmldddjljfaaGreatDoor.V
open Go.RowKit
theorem toList_inj {a b:ByteArray}(h:a.toList=b.toList):a=b:=by
 rw[Lib.toList_data,Lib.toList_data] at h
 have h2:a.data=b.data:=Array.toList_inj.1 h
 cases a;cases b;cases h2;rfl
end Go.Proofs.YthdjmldddjljfaaGreatDoor.V
namespace Go.Proofs.YthdjmldddjljfaaGreatDoor.V
open Go.RowKit
attribute [local go_sem ↓] Go.wp_at_zero Go.wp_at_succ
end Go.Proofs.YthdjmldddjljfaaGreatDoor.V
