/-
  OUR OWN.
-/
import Derived.Test.YthdjmldddjljfaaGreatDoorH14
import Derived.Deep.MidRow
set_option maxHeartbeats 8000000
set_option maxRecDepth 20000
namespace Go.Proofs.YthdjmldddjljfaaGreatDoor
open Go.RowKit
structure Tabs (w:World):Prop where
 rcs:∀j,j<24→w.cell? ⟨0,j,none⟩=some (.int .u64 (rc j:Nat))
 tus:∀j,j<25→w.cell? ⟨1,j,none⟩=some (.int .i64 (tu j:Nat))
theorem arr_toList (n:Nat)(f:Nat→Nat):(arr n f).toList=(List.range n).map fun j=>Value.int .u64 (f j:Nat):=by simp[arr]
theorem arr_drop (n o:Nat)(f:Nat→Nat)(h:o<n):(arr n f).toList.drop o=Value.int .u64 (f o:Nat) :: (arr n f).toList.drop (o+1):=by
 rw[List.drop_eq_getElem_cons (by simp[arr_toList,h])]
 simp[arr_toList]
theorem At.setAll {t:TypeId}{b n:Nat}{f g:Nat→Nat}:∀(m o:Nat) (w:World),n=o+m→At w b t n (upTo o g f)→At (w.setCells b o ((arr n g).toList.drop o)) b t n g
 | 0,o,w,hn,h=>by
   rw[List.drop_eq_nil_of_le (by simp[arr_toList];omega)]
   exact h.congr (fun j hj=>by simp[upTo];omega)
 | m+1,o,w,hn,h=>by
   rw[arr_drop n o g (by omega)]
   exact At.setAll m (o+1) _ (by omega) ((h.set o (g o)).congr (fun j _=>upTo_succ o g f j))
theorem grown_setAll {w:World}{row:Option Nat}{b:Nat}(hb:w.heap.size≤b∨row=some b):∀(vs:List Value) (o:Nat) (w' : World),w.grownBy w' row→w.grownBy (w'.setCells b o vs) row
 | [],_,_,h=>h
 | v :: r,o,_,h=>grown_setAll hb r (o+1) _ (grown_set h b o v hb)
theorem arr_one (n:Nat)(f:Nat→Nat):(arr n f).all (·.oneCell')=true:=by
 rw[Array.all_eq_true_iff_forall_mem]
 intro v hv
 simp[arr] at hv
 obtain⟨j,_,rfl⟩:=hv
 rfl
theorem At.there {w:World}{b:Nat}{t:TypeId}{n:Nat}{f:Nat→Nat}(h:At w b t n f)(g:Nat→Nat):w.there b 0 (arr n g).size:=by
 intro j hj
 rw[arr_size] at hj
 rw[Nat.zero_add,h.cell j hj,h.free j]
 simp
theorem size31 (f:Nat→Nat):(Tryz.prog.info? 158).map (·.size)=some (arr 25 f).size:=by
 rw[arr_size];kernel_rfl
set_option maxRecDepth 100000 in
theorem rhoPi_any (b:Nat)(f:Nat→Nat)(w:World)(hA:At w b 158 25 f)(hf:∀j,W64 (f j))(hT:Tabs w) :
  Calls Tryz.prog 142 #[.pointer (some ⟨b,0,none⟩)] w fun e w' => e=.returned (.agg (arr 25 (rpTo f 25)))∧w.grownBy w' none:=by
 have hb:=hA.lt
 have HA:=hide hA
 have HT:=hide hT
 clear hA hT
 go_enter Tryz.func142,Tryz.ntmps142
 go_wp2
 go_loopw [9] (fun i wr=>∃k:Nat,k≤25∧i=.int .i64 (k:Int)∧At wr w.heap.size 158 25 (fun _=>0)∧At wr (w.heap.size+1) 158 25 (rpTo f k)∧w.grownBy wr none) (fun i _=>25 - (intOf i).toNat)
 case atStart=>exact⟨0,Nat.zero_le _,rfl,heap_alloc2_old w _ _,heap_alloc2_new w _ _,grown_alloc (World.grownBy_alloc w _ _) _⟩
 case round =>
  obtain⟨k,hk,rfl,hR,hC,hg⟩:=hrel
  by_cases hlt:k<25
  ·have hy:=(HA.out.grown hg (by simp)).cell k hlt
   have htu:wr.cell? ⟨1,k,none⟩=some (.int .i64 (tu k:Nat)):=hg.cell (HT.out.tus k hlt) (by simp)
   have b0:(0:Int)≤(k:Int):=by omega
   have b1:(k:Int)<25:=by omega
   have ht:=tu_lt k
   have hfz:=hC.free (dest k)
   obtain⟨u0,hu0⟩:∃u,wr.cell? ⟨w.heap.size+1,dest k,none⟩=some u:=⟨_,hC.cell (dest k) (by unfold dest;omega)⟩
   have HS:Hid (∀nq,At ((wr.drewN nq).setCell ⟨w.heap.size+1,dest k,none⟩ (.int .u64 ((rot (f k) (tu k):Nat):Int))) w.heap.size 158 25 (fun _=>0)∧At ((wr.drewN nq).setCell ⟨w.heap.size+1,dest k,none⟩ (.int .u64 ((rot (f k) (tu k):Nat):Int))) (w.heap.size+1) 158 25 (rpTo f (k+1))∧w.grownBy ((wr.drewN nq).setCell ⟨w.heap.size+1,dest k,none⟩ (.int .u64 ((rot (f k) (tu k):Nat):Int))) none) :=
    fun nq=>⟨At.other (w:=wr.drewN nq) hR (by omega) _ _,At.set (w:=wr.drewN nq) hC (dest k) _,grown_set (grown_drewN hg nq) _ _ _ (.inl (by omega))⟩
   clear hR hC hg
   obtain⟨D,hD⟩:∃D,Hid (dest k=D):=⟨_,rfl⟩
   rw[hD.out] at HS hfz hu0
   have hD1:(D:Int)<25:=by have:=hD.out;unfold dest at this;omega
   have hD2:=hide (show (k:Int) / 5+5 * ((2 * ((k:Int) % 5)+3 * ((k:Int) / 5)) % 5)=(D:Int) from by have:=hD.out;unfold dest at this;omega)
   have hfk:=hf k
   generalize tu k=T at *
   generalize f k=y at hy HS hfk
   go_wp2
   go_quiet (fail)
   go_wp2_with fail
   refine (rotl_any y T _ hfk ht).mono ?_
   rintro e w' ⟨rfl,rfl⟩
   rw[hD2.out]
   go_wp2
   go_roundw
   case rel=>exact⟨k+1,by omega,by go_num,(HS.out _).1,(HS.out _).2.1,(HS.out _).2.2⟩
   case measure=>simp[intOf];omega
  ·have hk25:k=25:=by omega
   rw[hk25] at hC
   clear hk25
   have HC:=hide hC
   have HG:=hide hg
   have HR:=hide hR
   clear hC hg hR
   go_wp2_with (first
    | (refine wpList_load_row rfl 158 (.tmp 3) rfl (w.heap.size+1) rfl 158 (arr 25 (rpTo f 25)) (0,0) _ HC.out Tryz.underlying158 rfl (size31 _) ?_)
    | (refine wpList_store_mid rfl 158 (.tmp 2) (.tmp 35) rfl w.heap.size 0 (arr 25 (rpTo f 25)) rfl rfl (HR.out.there _) (size31 _) (arr_one _ _) ?_))
   have HF:=hide (At.setAll (n:=25) (f:=fun _=>0) (g:=rpTo f 25) 25 0 wr rfl (HR.out.congr (fun j _=>upTo_zero (rpTo f 25) (fun _=>0) j)))
   rw[List.drop_zero] at HF
   exact bodyPost_ret (v:=.agg (arr 25 (rpTo f 25))) (results_cell_row Tryz.results142 _ _ w.heap.size 158 _ (0,0) _ rfl HF.out Tryz.underlying158 rfl (size31 _)) rfl ⟨rfl,grown_setAll (.inl (Nat.le_refl _)) _ _ _ HG.out⟩
theorem not_nat (y:Nat)(hy:W64 y):18446744073709551615 ^^^ y=18446744073709551615 - y:=by
 have h:=congrArg BitVec.toNat (BitVec.allOnes_xor (x:=BitVec.ofNat 64 y))
 rw[BitVec.toNat_xor,BitVec.toNat_allOnes,BitVec.toNat_not,BitVec.toNat_ofNat,Nat.mod_eq_of_lt (by have:=hy.lt;omega)] at h
 exact h
theorem chi_eq (x y z:Nat)(hx:W64 x)(hy:W64 y)(hz:W64 z):bits BinOp.xor IntKind.u64 (x:Int) (bits BinOp.and IntKind.u64 (bits BinOp.xor IntKind.u64 (if IntKind.u64.signed=true then -1 else IntKind.u64.max) (y:Int)) (z:Int))=((x ^^^ ((18446744073709551615 - y) &&& z):Nat):Int):=by
 have e0:(if IntKind.u64.signed=true then -1 else IntKind.u64.max:Int)=((18446744073709551615:Nat):Int):=by decide
 have hy' := hy.lt
 rw[e0,u64_xor_nat _ _ (by omega) hy.lt,not_nat y hy,u64_and_nat _ _ (by omega) hz.lt,u64_xor_nat _ _ hx.lt]
 exact (W64.and (a:=18446744073709551615 - y) (b:=z) (by unfold W64;omega)).lt
set_option maxRecDepth 100000 in
theorem chi_any (b:Nat)(f g:Nat→Nat)(w:World)(hA:At w b 158 25 f)(hg:∀j,W64 (g j)) :
  Calls Tryz.prog 141 #[.pointer (some ⟨b,0,none⟩),.agg (arr 25 g)] w fun e w' => e=.returned (.tuple #[])∧At w' b 158 25 (chiF g)∧w.grownBy w' (some b):=by
 have hb:=hA.lt
 have HA:=hide hA
 clear hA
 obtain⟨G,hG⟩:∃G,Hid (arr 25 g=G):=⟨_,rfl⟩
 rw[hG.out]
 go_enter Tryz.func141,Tryz.ntmps141
 go_wp2
 go_loopw [7] (fun i wr=>∃k:Nat,k≤25∧i=.int .i64 (k:Int)∧At wr b 158 25 (upTo k (chiF g) f)∧At wr w.heap.size 158 25 g∧w.grownBy wr (some b)) (fun i _=>25 - (intOf i).toNat)
 case atStart=>exact⟨0,Nat.zero_le _,rfl,(HA.out.alloc _).congr (fun j _=>upTo_zero _ _ j),by unfold At;rw[hG.out];exact heap_alloc_new w _,World.grownBy_alloc w _ _⟩
 case round =>
  obtain⟨k,hk,rfl,hA,hC,hgr⟩:=hrel
  by_cases hlt:k<25
  ·have hx:=hC.cell k hlt
   have hy:=hC.cell (k - k % 5+(k % 5+1) % 5) (by omega)
   have hz:=hC.cell (k - k % 5+(k % 5+2) % 5) (by omega)
   have hfz:=hA.free k
   obtain⟨u0,hu0⟩:∃u,wr.cell? ⟨b,k,none⟩=some u:=⟨_,hA.cell k hlt⟩
   have HS:Hid (∀nq,At ((wr.drewN nq).setCell ⟨b,k,none⟩ (.int .u64 ((chiF g k:Nat):Int))) b 158 25 (upTo (k+1) (chiF g) f)∧At ((wr.drewN nq).setCell ⟨b,k,none⟩ (.int .u64 ((chiF g k:Nat):Int))) w.heap.size 158 25 g∧w.grownBy ((wr.drewN nq).setCell ⟨b,k,none⟩ (.int .u64 ((chiF g k:Nat):Int))) (some b)) :=
    fun nq=>⟨(At.set (w:=wr.drewN nq) hA k _).congr (fun j _=>upTo_succ k _ _ j),At.other (w:=wr.drewN nq) hC (by omega) _ _,grown_set (grown_drewN hgr nq) _ _ _ (.inr rfl)⟩
   have e1:chiF g k=g k ^^^ ((18446744073709551615 - g (k - k % 5+(k % 5+1) % 5)) &&& g (k - k % 5+(k % 5+2) % 5)):=rfl
   rw[e1] at HS
   clear e1 hA hC hgr
   have wx:=hg k
   have wy:=hg (k - k % 5+(k % 5+1) % 5)
   have wz:=hg (k - k % 5+(k % 5+2) % 5)
   obtain⟨q1,hq1⟩:∃q,Hid (k - k % 5+(k % 5+1) % 5=q):=⟨_,rfl⟩
   obtain⟨q2,hq2⟩:∃q,Hid (k - k % 5+(k % 5+2) % 5=q):=⟨_,rfl⟩
   rw[hq1.out] at hy HS wy
   rw[hq2.out] at hz HS wz
   generalize g k=x at hx HS wx
   generalize g q1=y at hy HS wy
   generalize g q2=z at hz HS wz
   have b0:(0:Int)≤(k:Int):=by omega
   have b1:(k:Int)<25:=by omega
   obtain⟨p,hp⟩:∃p,Hid (k % 5=p):=⟨_,rfl⟩
   obtain⟨r,hr⟩:∃r,Hid (k - k % 5=r):=⟨_,rfl⟩
   obtain⟨p1,hp1⟩:∃q,Hid ((p+1) % 5=q):=⟨_,rfl⟩
   obtain⟨p2,hp2⟩:∃q,Hid ((p+2) % 5=q):=⟨_,rfl⟩
   have hp5:p<5:=by have:=hp.out;omega
   have hkp:=hide (show (k:Int) % 5=(p:Int) from by have:=hp.out;omega)
   have hkr:=hide (show (k:Int) - (p:Int)=(r:Int) from by have:=hp.out;have:=hr.out;omega)
   have r1:IntKind.i64.wrap ((p:Int)+1)=(p:Int)+1:=by rw[IntKind.wrap_i64];omega
   have r2:IntKind.i64.wrap ((p:Int)+2)=(p:Int)+2:=by rw[IntKind.wrap_i64];omega
   have r3:((p:Int)+1).tmod 5=(p1:Int):=by rw[Int.tmod_eq_emod_of_nonneg (by omega)];have:=hp1.out;omega
   have r4:((p:Int)+2).tmod 5=(p2:Int):=by rw[Int.tmod_eq_emod_of_nonneg (by omega)];have:=hp2.out;omega
   have r5:IntKind.i64.wrap ((r:Int)+(p1:Int))=(q1:Int):=by rw[IntKind.wrap_i64];have:=hq1.out;have:=hp1.out;have:=hp.out;have:=hr.out;omega
   have r6:IntKind.i64.wrap ((r:Int)+(p2:Int))=(q2:Int):=by rw[IntKind.wrap_i64];have:=hq2.out;have:=hp2.out;have:=hp.out;have:=hr.out;omega
   have b2:(0:Int)≤(q1:Int):=by omega
   have b3:(q1:Int)<25:=by have:=hq1.out;omega
   have b4:(0:Int)≤(q2:Int):=by omega
   have b5:(q2:Int)<25:=by have:=hq2.out;omega
   go_wp2
   rw[hkp.out,hkr.out]
   go_region
   go_wp2
   rw[chi_eq x y z wx wy wz]
   go_roundw
   case rel=>exact⟨k+1,by omega,by go_num,(HS.out 1).1,(HS.out 1).2.1,(HS.out 1).2.2⟩
   case measure=>simp[intOf];omega
  ·have hk25:k=25:=by omega
   rw[hk25] at hA
   have HF:Hid (At wr b 158 25 (chiF g)):=hA.congr (fun j hj=>upTo_full 25 _ _ j hj)
   have HG2:=hide hgr
   clear hA hC hgr hk25
   go_wp2
   go_end0
   exact⟨rfl,HF.out,HG2.out⟩
theorem Tabs.grown {w w' : World}{b:Nat}(h:Tabs w)(hg:w.grownBy w' (some b))(hb:3≤b):Tabs w' :=
 ⟨fun j hj=>hg.cell (h.rcs j hj) (by simp;omega),fun j hj=>hg.cell (h.tus j hj) (by simp;omega)⟩
theorem Tabs.grownN {w w' : World}(h:Tabs w)(hg:w.grownBy w' none):Tabs w' :=
 ⟨fun j hj=>hg.cell (h.rcs j hj) (by simp),fun j hj=>hg.cell (h.tus j hj) (by simp)⟩
theorem grown_any {w w' : World}(h:w.grownBy w' none)(row:Option Nat):w.grownBy w' row:=⟨h.os,h.tape,h.output,h.size,fun k hk _=>h.block k hk (by simp)⟩
set_option maxRecDepth 100000 in
theorem permute_any (b:Nat)(f:Nat→Nat)(w:World)(hA:At w b 158 25 f)(hf:∀j,W64 (f j))(hT:Tabs w)(hb2:3≤b) :
  Calls Tryz.prog 114 #[.pointer (some ⟨b,0,none⟩)] w fun e w' => e=.returned (.tuple #[])∧At w' b 158 25 (permTo f 24)∧w.grownBy w' (some b):=by
 have hb:=hA.lt
 have HA:=hide hA
 have HT:=hide hT
 have HW:=hide (fun k=>permTo_w hf k)
 clear hA hT
 go_enter Tryz.func114,Tryz.ntmps114
 go_wp2
 go_loopw [3] (fun i wr=>∃k:Nat,k≤24∧i=.int .i64 (k:Int)∧At wr b 158 25 (permTo f k)∧w.grownBy wr (some b)) (fun i _=>24 - (intOf i).toNat)
 case atStart=>exact⟨0,Nat.zero_le _,rfl,HA.out,World.grownBy.refl _ _⟩
 case round =>
  obtain⟨k,hk,rfl,hA,hg⟩:=hrel
  by_cases hlt:k<24
  ·have HP:=hide hA
   have HG:=hide hg
   clear hA hg
   go_wp2_with fail
   refine (theta_any b (permTo f k) wr HP.out (HW.out k)).mono ?_
   rintro e w1 ⟨rfl,ha1,hg1⟩
   have H1:=hide (And.intro ha1 hg1)
   clear ha1 hg1
   go_wp2_with fail
   refine (rhoPi_any b _ w1 H1.out.1 (thetaF_w (HW.out k)) ((HT.out.grown HG.out hb2).grown H1.out.2 hb2)).mono ?_
   rintro e w2 ⟨rfl,hg2⟩
   have H2:=hide hg2
   clear hg2
   go_wp2_with fail
   refine (chi_any b _ _ w2 (H1.out.1.grown H2.out (by simp)) (rpTo_w (thetaF_w (HW.out k)) 25)).mono ?_
   rintro e w3 ⟨rfl,ha3,hg3⟩
   have HG3:Hid (w.grownBy w3 (some b)):=((HG.out.trans H1.out.2).trans (grown_any H2.out _)).trans hg3
   have hx:=ha3.cell 0 (by omega)
   have hfz:=ha3.free 0
   have hr:=((HT.out.grown HG3.out hb2).rcs k hlt)
   have hxor:=xor_u64 (chiF (rpTo (thetaF (permTo f k)) 25) 0) (rc k) (chiF_w (rpTo_w (thetaF_w (HW.out k)) 25) 0) (rc_w k)
   have HS:Hid (∀nq,At ((w3.drewN nq).setCell ⟨b,0,none⟩ (.int .u64 ((chiF (rpTo (thetaF (permTo f k)) 25) 0 ^^^ rc k:Nat):Int))) b 158 25 (permTo f (k+1))∧w.grownBy ((w3.drewN nq).setCell ⟨b,0,none⟩ (.int .u64 ((chiF (rpTo (thetaF (permTo f k)) 25) 0 ^^^ rc k:Nat):Int))) (some b)) :=
    fun nq=>⟨At.set (w:=w3.drewN nq) ha3 0 _,grown_set (grown_drewN HG3.out nq) _ _ _ (.inr rfl)⟩
   clear ha3 hg3 HP HG H1 H2 HG3
   generalize chiF (rpTo (thetaF (permTo f k)) 25) 0 ^^^ rc k=T at *
   generalize chiF (rpTo (thetaF (permTo f k)) 25) 0=x at *
   generalize rc k=y at hr hxor
   have b0:(0:Int)≤(k:Int):=by omega
   have b1:(k:Int)<24:=by omega
   go_wp2
   go_region
   all_goals
    go_wp2
    go_roundw
    case rel=>exact⟨k+1,by omega,by go_num,(HS.out 1).1,(HS.out 1).2⟩
    case measure=>simp[intOf];omega
  ·have hk25:k=24:=by omega
   rw[hk25] at hA
   have HF:=hide hA
   have HG2:=hide hg
   clear hA hg hk25
   go_wp2
   go_end0
   exact⟨rfl,HF.out,HG2.out⟩
end Go.Proofs.YthdjmldddjljfaaGreatDoor
