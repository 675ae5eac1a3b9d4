/-
  OUR OWN.
-/
import Derived.Test.YthdjmldddjljfaaGreatDoorH17
import Derived.Lib.Strings
set_option maxHeartbeats 8000000
set_option maxRecDepth 20000
namespace Go.Proofs.YthdjmldddjljfaaGreatDoor
open Go.RowKit
def leTo (g:Nat→Nat):Nat→Nat
 | 0=>0
 | k+1=>leTo g k+g k*2 ^ (8 * k)
theorem leTo_lt (g:Nat→Nat)(h:∀j,g j<256):∀k,leTo g k<2 ^ (8 * k)
 | 0=>by simp[leTo]
 | k+1=>by
   have h1:=leTo_lt g h k
   have h2:g k*2 ^ (8 * k)≤255 * 2 ^ (8 * k):=Nat.mul_le_mul_right _ (by have:=h k;omega)
   have h3:2 ^ (8 * (k+1))=256 * 2 ^ (8 * k):=by rw[show 8 * (k+1)=8 * k+8 from by omega,Nat.pow_add];omega
   simp only[leTo]
   omega
theorem leTo_w {g:Nat→Nat}(h:∀j,g j<256):W64 (leTo g 8):=by
 have:=leTo_lt g h 8
 unfold W64;simpa using this
def bt (s:ByteArray)(i:Nat):Nat:=(s.data.toList.getD i 0).toNat
theorem bt_lt (s:ByteArray)(i:Nat):bt s i<256:=UInt8.toNat_lt _
theorem bt_get (s:ByteArray)(i:Nat)(h:i<s.size):s[i].toNat=bt s i:=by
 unfold bt
 have:s.data.toList.getD i 0=s[i]:=by
  rw[List.getD_eq_getElem?_getD,List.getElem?_eq_getElem (by rw[Array.length_toList];exact h)];rfl
 rw[this]
theorem bt_extract (s:ByteArray)(a b i:Nat)(h:i<b - a):bt (s.extract a b) i=bt s (a+i):=by
 unfold bt
 congr 1
 rw[Lib.extract_data]
 simp[List.getD_eq_getElem?_getD,h]
theorem leTo_congr {g h:Nat→Nat}:∀k,(∀j,j<k→g j=h j)→leTo g k=leTo h k
 | 0,_=>rfl
 | k+1,e=>by simp only[leTo];rw[leTo_congr k (fun j hj=>e j (by omega)),e k (by omega)]
theorem word_step (g:Nat→Nat)(h:∀j,g j<256)(k:Nat)(hk:k<8):bits BinOp.or IntKind.u64 ((leTo g k:Nat):Int) (IntKind.u64.wrap ((g k:Int)*2 ^ (8 * k)))=((leTo g (k+1):Nat):Int):=by
 have h1:=leTo_lt g h k
 have h2:=leTo_lt g h (k+1)
 have hp:2 ^ (8 * (k+1))≤2 ^ 64:=Nat.pow_le_pow_right (by omega) (by omega)
 have hb:g k*2 ^ (8 * k)<18446744073709551616:=by simp only[leTo] at h2;omega
 have hl:leTo g k<18446744073709551616:=by simp only[leTo] at h2;omega
 have e1:IntKind.u64.wrap ((g k:Int)*2 ^ (8 * k))=((g k*2 ^ (8 * k):Nat):Int):=by
  rw[IntKind.wrap_u64,Int.natCast_mul,Int.natCast_pow]
  have:((g k:Int)*((2:Nat):Int) ^ (8 * k))=((g k*2 ^ (8 * k):Nat):Int):=by rw[Int.natCast_mul,Int.natCast_pow]
  rw[show ((2:Nat):Int)=2 from rfl] at this
  show (g k:Int)*2 ^ (8 * k) % 18446744073709551616=(g k:Int)*2 ^ (8 * k)
  rw[this];omega
 rw[e1,u64_or_nat _ _ hl hb,Nat.or_comm,nat_join (8 * k) _ _ (by simp) h1]
 simp only[leTo]
 congr 1
 omega
set_option maxRecDepth 100000 in
theorem word_any (s:ByteArray)(w:World)(hs:s.size=8) :
  Calls Tryz.prog 113 #[.string s] w fun e w' => e=.returned (.int .u64 ((leTo (bt s) 8:Nat):Int))∧w' = w:=by
 have HS:=hide hs
 have hs8:8≤s.size:=by omega
 clear hs
 go_enter Tryz.func113,Tryz.ntmps113
 go_wp2
 go_loop [3,5] (fun v i=>∃k:Nat,k≤8∧i=.int .i64 (k:Int)∧v=.int .u64 ((leTo (bt s) k:Nat):Int)) (fun _ i=>8 - (intOf i).toNat)
 case atStart=>exact⟨0,Nat.zero_le _,rfl,rfl⟩
 case round =>
  obtain⟨k,hk,rfl,rfl⟩:=hrel
  by_cases hlt:k<8
  ·have hks:k<s.size:=by omega
   have HG:=hide (bt_get s k hks)
   have HST:=hide (word_step (bt s) (bt_lt s) k hlt)
   have hb2:(s[k].toNat:Int)<256:=by have:=s[k].toNat_lt;omega
   go_wp2
   go_round
   case rel=>exact⟨k+1,by omega,by go_num,by rw[HG.out,HST.out]⟩
   case measure=>simp[intOf];omega
  ·have HK:Hid (k=8):=by show k=8;omega
   go_wp2
   go_ret
   exact⟨ret_int (by rw[HK.out]),rfl⟩
def blockW (s:ByteArray)(j:Nat):Nat:=leTo (fun i=>bt s (8 * j+i)) 8
theorem blockW_w (s:ByteArray)(j:Nat):W64 (blockW s j):=leTo_w (fun _=>bt_lt _ _)
def xorIn (f:Nat→Nat)(s:ByteArray):Nat→Nat:=fun j=>f j ^^^ blockW s j
def absF (f:Nat→Nat)(s:ByteArray):Nat→Nat:=permTo (upTo 17 (xorIn f s) f) 24
theorem absF_w {f:Nat→Nat}(h:∀j,W64 (f j))(s:ByteArray)(j:Nat):W64 (absF f s j):=permTo_w (upTo_w (fun j=>W64.xor (h j) (blockW_w s j)) h) 24 j
theorem word_at (s:ByteArray)(k:Nat)(w:World)(hs:s.size=136)(hk:k<17) :
  Calls Tryz.prog 113 #[.string (s.extract (8 * k) (8 * k+8))] w fun e w' => e=.returned (.int .u64 ((blockW s k:Nat):Int))∧w' = w:=by
 have h8:(s.extract (8 * k) (8 * k+8)).size=8:=by
  rw[ByteArray.size_extract];omega
 refine (word_any _ w h8).mono ?_
 rintro e w' ⟨rfl,rfl⟩
 refine⟨ret_int (congrArg (fun n:Nat=>(n:Int)) ?_),rfl⟩
 exact leTo_congr 8 (fun j hj=>bt_extract s (8 * k) (8 * k+8) j (by omega))
set_option maxRecDepth 100000 in
theorem absorb_any (b:Nat)(f:Nat→Nat)(s:ByteArray)(w:World)(hA:At w b 158 25 f)(hf:∀j,W64 (f j))(hT:Tabs w)(hb2:3≤b)(hs:s.size=136) :
  Calls Tryz.prog 83 #[.pointer (some ⟨b,0,none⟩),.string s] w fun e w' => e=.returned (.tuple #[])∧At w' b 158 25 (absF f s)∧w.grownBy w' (some b):=by
 have hb:=hA.lt
 have HA:=hide hA
 have HT:=hide hT
 have HSZ:=hide hs
 have hs1:136≤s.size:=by omega
 clear hA hT hs
 go_enter Tryz.func83,Tryz.ntmps83
 go_wp2
 go_loopw [5] (fun i wr=>∃k:Nat,k≤17∧i=.int .i64 (k:Int)∧At wr b 158 25 (upTo k (xorIn f s) f)∧w.grownBy wr (some b)) (fun i _=>17 - (intOf i).toNat)
 case atStart=>exact⟨0,Nat.zero_le _,rfl,HA.out.congr (fun j _=>upTo_zero _ _ j),World.grownBy.refl _ _⟩
 case round =>
  obtain⟨k,hk,rfl,hA,hg⟩:=hrel
  by_cases hlt:k<17
  ·have hx:=hA.cell k (by omega)
   rw[upTo_at] at hx
   have hfz:=hA.free k
   have HS:Hid (∀nq,At ((wr.drewN nq).setCell ⟨b,k,none⟩ (.int .u64 ((f k ^^^ blockW s k:Nat):Int))) b 158 25 (upTo (k+1) (xorIn f s) f)∧w.grownBy ((wr.drewN nq).setCell ⟨b,k,none⟩ (.int .u64 ((f k ^^^ blockW s k:Nat):Int))) (some b)) :=
    fun nq=>⟨(At.set (w:=wr.drewN nq) hA k _).congr (fun j _=>upTo_succ k (xorIn f s) f j),grown_set (grown_drewN hg nq) _ _ _ (.inr rfl)⟩
   have hxor:=xor_u64 (f k) (blockW s k) (hf k) (blockW_w s k)
   have HC:=hide (fun w=>word_at s k w HSZ.out hlt)
   clear hA hg
   generalize f k ^^^ blockW s k=T at *
   generalize blockW s k=y at *
   generalize f k=x at hx hxor
   have b0:(0:Int)≤(k:Int):=by omega
   have b1:(k:Int)<25:=by omega
   have b2:(8:Int)*(k:Int)+8≤(s.size:Int):=by omega
   have b3:(0:Int)≤8 * (k:Int):=by omega
   have r1:IntKind.i64.wrap (8 * (k:Int))=8 * (k:Int):=by rw[IntKind.wrap_i64];omega
   have r2:IntKind.i64.wrap (8 * (k:Int)+8)=8 * (k:Int)+8:=by rw[IntKind.wrap_i64];omega
   have r3:(8 * (k:Int)+8).toNat=8 * k+8:=by omega
   have r4:(8 * (k:Int)).toNat=8 * k:=by omega
   go_wp2
   go_region_with ((go_at_call 113;refine (HC.out _).mono ?_;rintro e w' ⟨rfl,rfl⟩))
   all_goals
    go_wp2
    go_roundw
    case rel=>exact⟨k+1,by omega,by go_num,(HS.out 1).1,(HS.out 1).2⟩
    case measure=>simp[intOf];omega
  ·have hk25:k=17:=by omega
   rw[hk25] at hA
   have HF:=hide hA
   have HG2:=hide hg
   clear hA hg hk25
   go_wp2_with fail
   refine (permute_any b _ wr HF.out (upTo_w (fun j=>W64.xor (hf j) (blockW_w s j)) hf) (HT.out.grown HG2.out hb2) hb2).mono ?_
   rintro e w2 ⟨rfl,ha,hg2⟩
   have HE:=hide (And.intro ha (HG2.out.trans hg2))
   clear ha hg2
   go_wp2
   go_end0
   exact⟨rfl,HE.out.1,HE.out.2⟩
end Go.Proofs.YthdjmldddjljfaaGreatDoor
