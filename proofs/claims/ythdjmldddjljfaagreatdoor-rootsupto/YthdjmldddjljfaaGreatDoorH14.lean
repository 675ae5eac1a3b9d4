/-
  OUR OWN.
-/
import Derived.Test.YthdjmldddjljfaaGreatDoorProg
import Derived.Test.YthdjmldddjljfaaGreatDoorH06
import Derived.BigQuiet
import Derived.Deep.QuietTactic
import Derived.Deep.RegionHeld3
import Derived.Deep.RegionWith
import Derived.Deep.DrawnRows
set_option maxHeartbeats 8000000
set_option maxRecDepth 20000
namespace Go.Proofs.YthdjmldddjljfaaGreatDoor
open Go.RowKit
attribute [local go_sem ↓] Go.wp_at_zero Go.wp_at_succ
theorem rotl_any (a k:Nat)(w:World)(ha:W64 a)(hk:k<64) :
  Calls Tryz.prog 157 #[.int .u64 (a:Nat),.int .i64 (k:Nat)] w fun e w' => e=.returned (.int .u64 (rot a k:Nat))∧w' = w:=by
 have hm:=and63 k hk
 have HE:=hide (rot_eq a k ha)
 go_enter Tryz.func157,Tryz.ntmps157
 go_wp2
 go_ret
 exact⟨ret_int (by have:=HE.out;simpa using this),rfl⟩
theorem rotl_one (a:Nat)(w:World)(ha:W64 a):Calls Tryz.prog 157 #[.int .u64 (a:Nat),.int .i64 1] w fun e w' => e=.returned (.int .u64 (rot a 1:Nat))∧w' = w:=rotl_any a 1 w ha (by omega)
theorem rot_zero {a:Nat}(ha:W64 a):rot a 0=a:=by
 have:=ha.lt
 unfold rot
 rw[Nat.pow_zero,Nat.mul_one,Nat.mod_eq_of_lt this,Nat.div_eq_of_lt (by omega)];simp
set_option maxRecDepth 100000 in
theorem theta_any (b:Nat)(f:Nat→Nat)(w:World)(hA:At w b 158 25 f)(hf:∀j,W64 (f j)) :
  Calls Tryz.prog 140 #[.pointer (some ⟨b,0,none⟩)] w fun e w' => e=.returned (.tuple #[])∧At w' b 158 25 (thetaF f)∧w.grownBy w' (some b):=by
 have hb:=hA.lt
 have HA:=hide hA
 clear hA
 go_enter Tryz.func140,Tryz.ntmps140
 go_wp2
 go_loopw [8] (fun i wr=>∃k:Nat,k≤25∧i=.int .i64 (k:Int)∧At wr w.heap.size 254 5 (colTo f k)∧w.grownBy wr none) (fun i _=>25 - (intOf i).toNat)
 case atStart=>exact⟨0,Nat.zero_le _,rfl,heap_alloc_new w _,World.grownBy_alloc w _ _⟩
 case round =>
  obtain⟨k,hk,rfl,hC,hg⟩:=hrel
  by_cases hlt:k<25
  ·have hx:=hC.cell (k % 5) (by omega)
   have hfz:=hC.free (k % 5)
   have hy:=(HA.out.grown hg (by simp)).cell k hlt
   have hxor:=xor_u64 (colTo f k (k % 5)) (f k) (colTo_w hf _ _) (hf k)
   have HS:Hid (∀nq,At ((wr.drewN nq).setCell ⟨w.heap.size,k % 5,none⟩ (.int .u64 ((colTo f k (k % 5) ^^^ f k:Nat):Int))) w.heap.size 254 5 (colTo f (k+1))∧w.grownBy ((wr.drewN nq).setCell ⟨w.heap.size,k % 5,none⟩ (.int .u64 ((colTo f k (k % 5) ^^^ f k:Nat):Int))) none) :=
    fun nq=>⟨(At.set (w:=wr.drewN nq) hC (k % 5) _).congr (fun j _=>colTo_succ f k j),grown_set (grown_drewN hg nq) _ _ _ (.inl (Nat.le_refl _))⟩
   generalize colTo f k (k % 5) ^^^ f k=z at *
   generalize colTo f k (k % 5)=x at *
   generalize f k=y at hy hxor
   clear hC hg
   have b0:(0:Int)≤(k:Int):=by omega
   have b1:(k:Int)<25:=by omega
   go_wp2
   go_quiet (fail)
   go_wp2
   go_roundw
   case rel=>exact⟨k+1,by omega,by go_num,(HS.out _).1,(HS.out _).2⟩
   case measure=>simp[intOf];omega
  ·have hk25:k=25:=by omega
   rw[hk25] at hC
   have HC:=hide hC
   have HG:=hide hg
   clear hC hg hk25
   obtain⟨k0,hk0⟩:∃k0,k=k0:=⟨_,rfl⟩
   subst hk0
   go_wp2
   obtain⟨wo,rfl⟩:∃wo:World,wo=wr:=⟨_,rfl⟩
   go_loopw [22] (fun i wr=>∃k:Nat,k≤25∧i=.int .i64 (k:Int)∧At wr b 158 25 (upTo k (thetaF f) f)∧At wr w.heap.size 254 5 (colTo f 25)∧w.grownBy wr (some b)) (fun i _=>25 - (intOf i).toNat)
   case atStart=>exact⟨0,Nat.zero_le _,rfl,(HA.out.grown HG.out (by simp)).congr (fun j _=>upTo_zero _ _ j),HC.out,⟨HG.out.os,HG.out.tape,HG.out.output,HG.out.size,fun k hk _=>HG.out.block k hk (by simp)⟩⟩
   case round =>
    obtain⟨k,hk,rfl,hA,hC,hg⟩:=hrel
    by_cases hlt:k<25
    ·have hx:=hC.cell ((k % 5+4) % 5) (by omega)
     have hy:=hC.cell ((k % 5+1) % 5) (by omega)
     have hz:=hA.cell k hlt
     rw[upTo_at] at hz
     have hfz:=hA.free k
     have w1:=colTo_w hf 25 ((k % 5+4) % 5)
     have w2:=colTo_w hf 25 ((k % 5+1) % 5)
     have hxor1:=xor_u64 (colTo f 25 ((k % 5+4) % 5)) (rot (colTo f 25 ((k % 5+1) % 5)) 1) w1 (rot_w w2 1)
     have hxor2:=xor_u64 (f k) (colTo f 25 ((k % 5+4) % 5) ^^^ rot (colTo f 25 ((k % 5+1) % 5)) 1) (hf k) (W64.xor w1 (rot_w w2 1))
     have HS:Hid (∀nq,At ((wr.drewN nq).setCell ⟨b,k,none⟩ (.int .u64 ((thetaF f k:Nat):Int))) b 158 25 (upTo (k+1) (thetaF f) f)∧At ((wr.drewN nq).setCell ⟨b,k,none⟩ (.int .u64 ((thetaF f k:Nat):Int))) w.heap.size 254 5 (colTo f 25)∧w.grownBy ((wr.drewN nq).setCell ⟨b,k,none⟩ (.int .u64 ((thetaF f k:Nat):Int))) (some b)) :=
      fun nq=>⟨(At.set (w:=wr.drewN nq) hA k _).congr (fun j _=>upTo_succ k _ _ j),At.other (w:=wr.drewN nq) hC (by omega) _ _,grown_set (grown_drewN hg nq) _ _ _ (.inr rfl)⟩
     have e1:thetaF f k=f k ^^^ (colTo f 25 ((k % 5+4) % 5) ^^^ rot (colTo f 25 ((k % 5+1) % 5)) 1):=rfl
     rw[e1] at HS
     clear e1 hA hC hg
     generalize f k ^^^ (colTo f 25 ((k % 5+4) % 5) ^^^ rot (colTo f 25 ((k % 5+1) % 5)) 1)=T at *
     generalize colTo f 25 ((k % 5+4) % 5)=x at *
     generalize hY:colTo f 25 ((k % 5+1) % 5)=y at *
     clear hY
     generalize f k=z at hz hxor2
     have b0:(0:Int)≤(k:Int):=by omega
     have b1:(k:Int)<25:=by omega
     obtain⟨p,hp⟩:∃p,Hid (k % 5=p):=⟨_,rfl⟩
     rw[hp.out] at hx hy
     obtain⟨q1,hq1⟩:∃q,Hid ((p+4) % 5=q):=⟨_,rfl⟩
     obtain⟨q2,hq2⟩:∃q,Hid ((p+1) % 5=q):=⟨_,rfl⟩
     rw[hq1.out] at hx
     rw[hq2.out] at hy
     have hp5:p<5:=by have:=hp.out;omega
     have hkp:=hide (show (k:Int) % 5=(p:Int) from by have:=hp.out;omega)
     have r1:IntKind.i64.wrap ((p:Int)+4)=(p:Int)+4:=by rw[IntKind.wrap_i64];omega
     have r2:IntKind.i64.wrap ((p:Int)+1)=(p:Int)+1:=by rw[IntKind.wrap_i64];omega
     have r3:((p:Int)+4).tmod 5=(q1:Int):=by rw[Int.tmod_eq_emod_of_nonneg (by omega)];have:=hq1.out;omega
     have r4:((p:Int)+1).tmod 5=(q2:Int):=by rw[Int.tmod_eq_emod_of_nonneg (by omega)];have:=hq2.out;omega
     have b2:(0:Int)≤(q1:Int):=by omega
     have b3:(q1:Int)<5:=by have:=hq1.out;omega
     have b4:(0:Int)≤(q2:Int):=by omega
     have b5:(q2:Int)<5:=by have:=hq2.out;omega
     have hbw:=World.block_lt_of_cell? wr _ hz
     go_wp2
     rw[hkp.out]
     go_region_with ((go_at_call 157;refine (rotl_one y _ w2).mono ?_;rintro e w' ⟨rfl,rfl⟩))
     all_goals
      go_wp2
      go_roundw
      case rel=>exact⟨k+1,by omega,by go_num,(HS.out 1).1,(HS.out 1).2.1,(HS.out 1).2.2⟩
      case measure=>simp[intOf];omega
    ·have hk25:k=25:=by omega
     rw[hk25] at hA
     have HF:Hid (At wr b 158 25 (thetaF f)):=hA.congr (fun j hj=>upTo_full 25 _ _ j hj)
     clear hk25
     have HG2:=hide hg
     clear hA hC hg
     go_wp2
     go_end0
     exact⟨rfl,HF.out,HG2.out⟩
theorem turned_any (a k:Nat)(w:World)(ha:W64 a)(hk:k<1000) :
  Calls Tryz.prog 118 #[.int .u64 (a:Nat),.int .i64 (k:Nat)] w fun e w' => e=.returned (.int .u64 (rot a (k % 64):Nat))∧∃n,w' = w.drewN n:=by
 by_cases h0:((k:Int) % 64 == 0)=true
 ·have hz:k % 64=0:=by simp at h0;omega
  have HE:Hid (a=rot a (k % 64)):=by show a=_;rw[hz,rot_zero ha]
  clear hz
  go_enter Tryz.func118,Tryz.ntmps118
  go_wp2
  go_ret
  exact⟨ret_int (congrArg (fun n:Nat=>(n:Int)) HE.out),0,rfl⟩
 ·have h1:((k:Int) % 64 == 0)=false:=by simpa using h0
  have HE:=hide (rot_eq a (k % 64) ha)
  clear h0
  go_enter Tryz.func118,Tryz.ntmps118
  go_wp2
  go_quiet (fail)
  go_wp2
  go_ret
  exact⟨ret_int HE.out,nq,rfl⟩
end Go.Proofs.YthdjmldddjljfaaGreatDoor
