/-
  OUR OWN.
-/
import Derived.Test.YthdjmldddjljfaaGreatDoorH15
import Derived.Lib.Strings
import Derived.Lib.Walk
import Derived.Lib.BufferWrite
import Derived.Lib.UnsafeStr
set_option maxHeartbeats 8000000
set_option maxRecDepth 20000
namespace Go.Proofs.YthdjmldddjljfaaGreatDoor.V
open Go.RowKit
attribute [local go_sem ↓] Go.wp_at_zero Go.wp_at_succ
theorem empty_of_size {s:ByteArray}(h:s.size=0):s=⟨#[]⟩:=ByteArray.ext (Array.eq_empty_of_size_eq_zero h)
def ownC (s:ByteArray):Bool:=decide (s.size=1) && decide (byteN s 0 < 128)
def spanN (s:ByteArray)(a z limit:Nat):(Nat×Nat)×Int :=
 if z≤55 then (if limit<a+1+z then ((0,0),3) else ((a+1,a+1+z),0))
 else if (lenN s (a+1) (z - 55) limit).2≠0 then ((0,0),(lenN s (a+1) (z - 55) limit).2)
 else if (limit:Int)<((a+1+(z - 55):Nat):Int)+(lenN s (a+1) (z - 55) limit).1 then ((0,0),3)
 else ((a+1+(z - 55),a+1+(z - 55)+(lenN s (a+1) (z - 55) limit).1.toNat),0)
theorem lenN_cases (s:ByteArray)(a k limit:Nat):((lenN s a k limit).1=0∧((lenN s a k limit).2=3∨(lenN s a k limit).2=4))∨∃L:Nat,L≤6001∧55 < L∧lenN s a k limit=((L:Int),0):=by
 unfold lenN
 split
 ·exact .inl ⟨rfl,.inl rfl⟩
 ·split
  ·exact .inl ⟨rfl,.inr rfl⟩
  ·split
   ·exact .inl ⟨rfl,.inr rfl⟩
   ·exact .inr ⟨min (numN s a k) 6001,Nat.min_le_right _ _,by omega,rfl⟩
theorem ext_size (s:ByteArray)(a b:Nat)(h:a≤b)(hb:b≤s.size):(s.extract a b).size=b - a:=by simp[ByteArray.size_extract];omega
end Go.Proofs.YthdjmldddjljfaaGreatDoor.V
