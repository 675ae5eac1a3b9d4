/-
  OUR OWN.
-/
import Derived.Test.YthdjmldddjljfaaGreatDoorH10
import Derived.Laws.Bits64
import Derived.Laws.BitsAllLaws
set_option maxHeartbeats 8000000
set_option maxRecDepth 20000
namespace Go.Proofs.YthdjmldddjljfaaGreatDoor.V
open Go.RowKit
attribute [local go_sem ↓] Go.wp_at_zero Go.wp_at_succ
def byteN (s:ByteArray)(i:Nat):Nat:=(s.data.toList.getD i 0).toNat
theorem byteN_eq (s:ByteArray)(i:Nat)(h:i<s.size):s[i].toNat=byteN s i:=by
 unfold byteN
 have h2:i<s.data.toList.length:=by rw[Array.length_toList];exact h
 rw[List.getD_eq_getElem?_getD,List.getElem?_eq_getElem h2]
 rfl
theorem byteN_lt (s:ByteArray)(i:Nat):byteN s i<256:=UInt8.toNat_lt _
def numN (s:ByteArray)(a:Nat):Nat→Nat
 | 0=>0
 | k+1=>numN s a k*256+byteN s (a+k)
def lenN (s:ByteArray)(a k limit:Nat):Int×Int :=
 if limit<a+k then (0,3) else if byteN s a=0 then (0,4) else if numN s a k≤55 then (0,4) else ((min (numN s a k) 6001:Nat),0)
end Go.Proofs.YthdjmldddjljfaaGreatDoor.V
