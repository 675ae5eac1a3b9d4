/-
  OUR OWN.
-/
import Derived.Test.YthdjmldddjljfaaGreatDoorH08
import Derived.Deep.RegionHeld3
import Derived.Deep.DrawnRows
set_option maxHeartbeats 8000000
set_option maxRecDepth 20000
namespace Go.Proofs.YthdjmldddjljfaaGreatDoor.V
open Go.RowKit
attribute [local go_sem ↓] Go.wp_at_zero Go.wp_at_succ
theorem rPack_bad (ao:Option Addr)(cap:Nat)(zs:List Int)(leaf:Bool)(w:World)(hl:zs.length≤128)(hc:Ints w ao zs)(h:isP zs=false) :
  Calls Tryz.prog 91 #[.slice ao zs.length cap,.bool leaf] w fun e w' => e=.returned (.tuple #[.string ⟨#[]⟩,.int .i64 7])∧w' = w:=by
 have HB:=hide h
 clear h
 go_enter Tryz.func91,Tryz.ntmps91
 go_wp2
 go_loop [6] (fun i=>∃k:Nat,k≤zs.length∧i=.int .i64 k∧(zs.take k).all nib=true) (fun i=>zs.length - (intOf i).toNat)
 case atStart=>exact⟨0,Nat.zero_le _,rfl,by simp⟩
 case round =>
  obtain⟨k,hk,rfl,hall⟩:=hrel
  by_cases hlt:k<zs.length
  ·obtain⟨b,off,rfl,hcell⟩:=hc.get k hlt
   have HS:=hide (all_take_succ nib zs k hlt)
   have HN:Hid (nib zs[k]=nib (zs.getD k 0)):=by simp[Hid,hlt]
   have HA:=hide hall
   clear hall
   by_cases hneg:zs[k]<0
   ·go_wp2
    go_ret2
    exact⟨rfl,rfl⟩
   ·by_cases hbig:15 < zs[k]
    ·go_wp2
     go_ret2
     exact⟨rfl,rfl⟩
    ·go_wp2
     go_round
     case rel=>exact⟨k+1,by omega,by go_num,by rw[HS.out,HA.out,←HN.out];simp[nib];omega⟩
     case measure=>simp[intOf];omega
  ·exfalso
   have hk2:k=zs.length:=by omega
   have:=isP_good hl (by rw[←hk2];exact hall)
   rw[HB.out] at this
   cases this
theorem conv_own {w:World}{base n:Nat}{v:Value}{bs:List Int}(h:w.ownsRow base 5 1 v n (bs.map (Value.int .u8))) :
  (convert 144 9 v).run Tryz.prog w=.ok (.string (strOfNums bs)) w:=by
 have hl:bs.length=n:=by simpa using h.1
 rcases h.2 with⟨rfl,rfl⟩|⟨g,cap,cur,rfl,_⟩
 ·obtain rfl:bs=[]:=List.length_eq_zero_iff.1 hl
  exact run_convert_bytes_nil (P:=Tryz.prog) w 144 5 Tryz.underlying144 Tryz.underlying5 0 0 9 Tryz.underlying9
 ·refine run_convert_bytes_arg (P:=Tryz.prog) w 144 5 Tryz.underlying144 Tryz.underlying5 g 0 n cap bs hl ?_ 9 Tryz.underlying9
  intro i hi
  have:=h.cells (g:=g) rfl i (.int .u8 (bs.getD i 0)) (by simp[List.getD_eq_getElem?_getD,hl,hi])
  rw[←this,addr_add]
theorem take_succ_map (l:List Int)(q:Nat)(h:q<l.length):((l.take q).map (Value.int .u8))++[.int .u8 (l.getD q 0)]=(l.take (q+1)).map (Value.int .u8):=by
 rw[List.take_succ_eq_append_getElem h,List.map_append]
 congr 1
 simp[List.getD_eq_getElem?_getD,h]
theorem own_one (w:World)(x:Int):(w.alloc (.cells #[.int .i64 x] 3)).ownsRow w.heap.size 3 1 (.slice (some ⟨w.heap.size,0,none⟩) 1 1) 1 [.int .i64 x] :=
 ⟨by simp,.inr ⟨w.heap.size,1,#[.int .i64 x],rfl,Nat.le_refl _,heap_alloc_new w _,Nat.le_refl _,by unfold maxLen;omega,by simp,by simp⟩⟩
set_option maxRecDepth 100000 in
theorem rPack_good (ao:Option Addr)(cap:Nat)(zs:List Int)(leaf:Bool)(w:World)(hc:Ints w ao zs)(hnil:ao=none→cap=0)(h:isP zs=true) :
  Calls Tryz.prog 91 #[.slice ao zs.length cap,.bool leaf] w fun e w' => e=.returned (.tuple #[.string (codeOf leaf zs),.int .i64 0])∧Below w.heap.size w w' := by
 have hl:=isP_len h
 have HNb:=hide (isP_nib h)
 have HN2:=hide (halvesOf_nib (leaf:=leaf) (isP_nib h))
 have HL:=hide (halvesOf_length leaf zs)
 clear h
 go_enter Tryz.func91,Tryz.ntmps91
 go_wp2
 go_loop [6] (fun i=>∃k:Nat,k≤zs.length∧i=.int .i64 k) (fun i=>zs.length - (intOf i).toNat)
 case atStart=>exact⟨0,Nat.zero_le _,rfl⟩
 case round =>
  obtain⟨k,hk,rfl⟩:=hrel
  by_cases hlt:k<zs.length
  ·obtain⟨b,off,rfl,hcell⟩:=hc.get k hlt
   obtain⟨n1,n2⟩:=HNb.out k hlt
   have hneg:¬zs[k]<0:=by simp[hlt] at n1;omega
   have hbig:¬15 < zs[k]:=by simp[hlt] at n2;omega
   clear n1 n2
   go_wp2
   go_round
   case rel=>exact⟨k+1,by omega,by go_num⟩
   case measure=>simp[intOf];omega
  ·obtain⟨i0,hi,hz0,hz1,hz2⟩:=info_parts info3
   obtain⟨j0,hj,hy0,hy1,hy2⟩:=info_parts info5
   have HR:=hide (hc.reads hnil)
   clear hc hnil
   by_cases hodd:((zs.length:Int) % 2 == 1)=true
   ·have hodd' : ((zs.length:Int) % 2 == 0)=false:=by simp at hodd ⊢;omega
    have ho2:(zs.length:Int) % 2=1:=by simpa using hodd
    have HO:=hide ho2
    cases leaf
    ·go_wp2_with (at_builtin;go_must (refine wpList_append_reads rfl (.tmp 47) (.tmp 48) 80 rfl w.heap.size 3 i0 (.int .i64 0) 1 8 Tryz.underlying80 hi hz0 hz1 hz2 rfl (by decide) _ 1 [.int .i64 1] rfl (own_one w 1) _ zs.length (zs.map (Value.int .i64)) rfl (HR.out.keep (below_alloc w _)) (by simp) (ints_one zs) (by unfold maxLen;omega) (by omega) (by simp<;>omega) ?_);intro v2 w2 hown2 hgrow2)
     have HH:=hide (halvesOf_odd (leaf:=false) (zs:=zs) (by omega))
     have hown2:w2.ownsRow w.heap.size 3 1 v2 (1+zs.length) ((halvesOf false zs).map (Value.int .i64)):=by rw[HH.out];exact hown2
     rw[show 1+zs.length=2 * (zs.length / 2+1) from by omega] at hown2
     obtain⟨N,hN⟩:∃N,Hid (2 * (zs.length / 2+1)=N):=⟨_,rfl⟩
     rw[hN.out] at hown2
     have hN1:N≤130:=by have:=hN.out;omega
     obtain⟨ga,ca,rfl,hga,hgl⟩:=hown2.form (by have:=hN.out;omega)
     have HI:=hide (Ints.own hown2)
     have hb2:=(below_alloc w _).grown hgrow2 (by simp<;>omega) (row_ge (Nat.le_refl _))
     have HB2:=hide hb2
     clear hown2 hgrow2
     go_loopw [9,10] (fun v i wr=>∃k p:Nat,k≤zs.length / 2+1∧i=.int .i64 (p:Int)∧Hid (p=2 * k)∧wr.ownsRow w2.heap.size 5 1 v k (((pairUp (halvesOf false zs)).take k).map (Value.int .u8))∧Below w2.heap.size w2 wr) (fun _ i _=>N - (intOf i).toNat)
     case atStart=>exact⟨0,0,Nat.zero_le _,rfl,rfl,World.ownsRow_nil _ _ _ _,Below.refl _ _⟩
     case round =>
      obtain⟨q,p,hq,rfl,hp,hown,hbw⟩:=hrel
      by_cases hql:q<zs.length / 2+1
      ·obtain⟨x1,x2⟩:=HN2.out (2 * q) (by rw[HL.out];omega)
       obtain⟨y1,y2⟩:=HN2.out (2 * q+1) (by rw[HL.out];omega)
       obtain⟨b1,o1,e1,c1⟩:=HI.out.get (2 * q) (by rw[HL.out];omega)
       obtain⟨b2,o2,e2,c2⟩:=HI.out.get (2 * q+1) (by rw[HL.out];omega)
       obtain⟨rfl,rfl⟩:ga=b1∧0=o1:=by simpa using e1
       obtain⟨rfl,rfl⟩:ga=b2∧0=o2:=by simpa using e2
       have HP:=hide (pairUp_getD (zs.length / 2+1) q (halvesOf false zs) HL.out hql)
       have HQ:=hide (pairUp_length (zs.length / 2+1) (halvesOf false zs) HL.out)
       clear e1 e2
       generalize (halvesOf false zs).getD (2 * q) 0=x at *
       generalize (halvesOf false zs).getD (2 * q+1) 0=y at *
       rw[Nat.zero_add,←hp.out] at c1 c2
       have hc1:wr.cell? ⟨ga,p,none⟩=some (.int .i64 x):=by rw[hbw.cell (p:=⟨ga,p,none⟩) hgl];exact c1
       have hc2:wr.cell? ⟨ga,p+1,none⟩=some (.int .i64 y):=by rw[hbw.cell (p:=⟨ga,p+1,none⟩) hgl];exact c2
       have hgw:ga<wr.heap.size:=Nat.lt_of_lt_of_le hgl hbw.size
       have hne:some ga≠u9.ownBlock:=fun e=>by have:=(hown.lt ga e.symm).1;omega
       have HNE:=hide hne
       have HOW:=hide hown
       have HBW:=hide hbw
       clear c1 c2 hne hown hbw
       have b0:(0:Int)≤(p:Int):=by omega
       have b1:(p:Int)<(N:Int):=by have:=hN.out;have:=hp.out;omega
       have b2:(p:Int)+1 < (N:Int):=by have:=hN.out;have:=hp.out;omega
       have b3:(0:Int)≤(p:Int)+1:=by omega
       have b4:((p:Int)+1).toNat=p+1:=by omega
       have k1:IntKind.i64.wrap ((p:Int)+1)=(p:Int)+1:=by rw[IntKind.wrap_i64];omega
       have k2:IntKind.i64.wrap (16 * x)=16 * x:=by rw[IntKind.wrap_i64];omega
       have k3:IntKind.i64.wrap (16 * x+y)=16 * x+y:=by rw[IntKind.wrap_i64];omega
       have k4:IntKind.u8.wrap (16 * x+y)=16 * x+y:=by rw[IntKind.wrap_u8];omega
       go_wp2
       go_region_held3 (fun w' => w'.cell? ⟨ga,p,none⟩=some (.int .i64 x)∧w'.cell? ⟨ga,p+1,none⟩=some (.int .i64 y))
        (first
          | go_keep
          | (go_split_ands
             refine⟨?_,?_⟩<;>(rw[hgrow.cell_far _ (by simp;omega) HNE.out];assumption)))
        ((refine step_append_lies _ (by rfl) _ _ _ (by rfl) w2.heap.size 5 j0 _ 1 1 Tryz.underlying144 hj hy0 hy1 hy2 rfl (by omega) u9 q _ (by rfl) ((HOW.out.alloc _).drew)
           ⟨wr.heap.size,0,none⟩ 1 1 [.int .u8 (16 * x+y)] (by rfl) (by rfl) (World.news_of_block (cs:=#[.int .u8 (16 * x+y)]) (t:=5) (fr:=(0,0)) (heap_alloc_new wr _)) (by simp[Value.oneCell'])
           (by omega) (by unfold maxLen;omega) (by omega) (by have:=HBW.out.size;simp;omega) (wr.heap.size+1) (by simp) ?_;intro gg cap2 w3 hown3 hgrow hat3 hlt3))
       have hb3:=((HBW.out.alloc HBW.out.size (.cells #[.int .u8 (16 * x+y)] 5)).drew).grown hgrow (by have:=HBW.out.size;simp;omega) (own_ge HOW.out (Nat.le_refl _))
       rw[←HP.out,take_succ_map _ q (by rw[HQ.out];exact hql)] at hown3
       have HO3:=hide hown3
       have HB3:=hide hb3
       clear hown3 hb3 hgrow
       go_wp2
       go_roundw
       case rel=>exact⟨q+1,p+2,by omega,by go_num,by have:=hp.out;show p+2=2 * (q+1);omega,HO3.out,HB3.out⟩
       case measure=>simp[intOf];omega
      ·have HQ:=hide (pairUp_length (zs.length / 2+1) (halvesOf false zs) HL.out)
       have hqe:(pairUp (halvesOf false zs)).take q=pairUp (halvesOf false zs):=List.take_of_length_le (by rw[HQ.out];omega)
       rw[hqe] at hown
       have hcv:=conv_own hown
       have HF:Hid (Below w.heap.size w wr):=HB2.out.trans (hbw.mono HB2.out.size)
       have b1:(N:Int)≤(p:Int)+1:=by have:=hN.out;have:=hp.out;omega
       have b2:(p:Int)≤1000:=by have:=hp.out;omega
       clear hown hbw hqe
       go_wp2
       go_ret2
       exact⟨rfl,HF.out⟩
    ·go_wp2_with (at_builtin;go_must (refine wpList_append_reads rfl (.tmp 47) (.tmp 48) 80 rfl w.heap.size 3 i0 (.int .i64 0) 1 8 Tryz.underlying80 hi hz0 hz1 hz2 rfl (by decide) _ 1 [.int .i64 3] rfl (own_one w 3) _ zs.length (zs.map (Value.int .i64)) rfl (HR.out.keep (below_alloc w _)) (by simp) (ints_one zs) (by unfold maxLen;omega) (by omega) (by simp<;>omega) ?_);intro v2 w2 hown2 hgrow2)
     have HH:=hide (halvesOf_odd (leaf:=true) (zs:=zs) (by omega))
     have hown2:w2.ownsRow w.heap.size 3 1 v2 (1+zs.length) ((halvesOf true zs).map (Value.int .i64)):=by rw[HH.out];exact hown2
     rw[show 1+zs.length=2 * (zs.length / 2+1) from by omega] at hown2
     obtain⟨N,hN⟩:∃N,Hid (2 * (zs.length / 2+1)=N):=⟨_,rfl⟩
     rw[hN.out] at hown2
     have hN1:N≤130:=by have:=hN.out;omega
     obtain⟨ga,ca,rfl,hga,hgl⟩:=hown2.form (by have:=hN.out;omega)
     have HI:=hide (Ints.own hown2)
     have hb2:=(below_alloc w _).grown hgrow2 (by simp<;>omega) (row_ge (Nat.le_refl _))
     have HB2:=hide hb2
     clear hown2 hgrow2
     go_loopw [9,10] (fun v i wr=>∃k p:Nat,k≤zs.length / 2+1∧i=.int .i64 (p:Int)∧Hid (p=2 * k)∧wr.ownsRow w2.heap.size 5 1 v k (((pairUp (halvesOf true zs)).take k).map (Value.int .u8))∧Below w2.heap.size w2 wr) (fun _ i _=>N - (intOf i).toNat)
     case atStart=>exact⟨0,0,Nat.zero_le _,rfl,rfl,World.ownsRow_nil _ _ _ _,Below.refl _ _⟩
     case round =>
      obtain⟨q,p,hq,rfl,hp,hown,hbw⟩:=hrel
      by_cases hql:q<zs.length / 2+1
      ·obtain⟨x1,x2⟩:=HN2.out (2 * q) (by rw[HL.out];omega)
       obtain⟨y1,y2⟩:=HN2.out (2 * q+1) (by rw[HL.out];omega)
       obtain⟨b1,o1,e1,c1⟩:=HI.out.get (2 * q) (by rw[HL.out];omega)
       obtain⟨b2,o2,e2,c2⟩:=HI.out.get (2 * q+1) (by rw[HL.out];omega)
       obtain⟨rfl,rfl⟩:ga=b1∧0=o1:=by simpa using e1
       obtain⟨rfl,rfl⟩:ga=b2∧0=o2:=by simpa using e2
       have HP:=hide (pairUp_getD (zs.length / 2+1) q (halvesOf true zs) HL.out hql)
       have HQ:=hide (pairUp_length (zs.length / 2+1) (halvesOf true zs) HL.out)
       clear e1 e2
       generalize (halvesOf true zs).getD (2 * q) 0=x at *
       generalize (halvesOf true zs).getD (2 * q+1) 0=y at *
       rw[Nat.zero_add,←hp.out] at c1 c2
       have hc1:wr.cell? ⟨ga,p,none⟩=some (.int .i64 x):=by rw[hbw.cell (p:=⟨ga,p,none⟩) hgl];exact c1
       have hc2:wr.cell? ⟨ga,p+1,none⟩=some (.int .i64 y):=by rw[hbw.cell (p:=⟨ga,p+1,none⟩) hgl];exact c2
       have hgw:ga<wr.heap.size:=Nat.lt_of_lt_of_le hgl hbw.size
       have hne:some ga≠u9.ownBlock:=fun e=>by have:=(hown.lt ga e.symm).1;omega
       have HNE:=hide hne
       have HOW:=hide hown
       have HBW:=hide hbw
       clear c1 c2 hne hown hbw
       have b0:(0:Int)≤(p:Int):=by omega
       have b1:(p:Int)<(N:Int):=by have:=hN.out;have:=hp.out;omega
       have b2:(p:Int)+1 < (N:Int):=by have:=hN.out;have:=hp.out;omega
       have b3:(0:Int)≤(p:Int)+1:=by omega
       have b4:((p:Int)+1).toNat=p+1:=by omega
       have k1:IntKind.i64.wrap ((p:Int)+1)=(p:Int)+1:=by rw[IntKind.wrap_i64];omega
       have k2:IntKind.i64.wrap (16 * x)=16 * x:=by rw[IntKind.wrap_i64];omega
       have k3:IntKind.i64.wrap (16 * x+y)=16 * x+y:=by rw[IntKind.wrap_i64];omega
       have k4:IntKind.u8.wrap (16 * x+y)=16 * x+y:=by rw[IntKind.wrap_u8];omega
       go_wp2
       go_region_held3 (fun w' => w'.cell? ⟨ga,p,none⟩=some (.int .i64 x)∧w'.cell? ⟨ga,p+1,none⟩=some (.int .i64 y))
        (first
          | go_keep
          | (go_split_ands
             refine⟨?_,?_⟩<;>(rw[hgrow.cell_far _ (by simp;omega) HNE.out];assumption)))
        ((refine step_append_lies _ (by rfl) _ _ _ (by rfl) w2.heap.size 5 j0 _ 1 1 Tryz.underlying144 hj hy0 hy1 hy2 rfl (by omega) u9 q _ (by rfl) ((HOW.out.alloc _).drew)
           ⟨wr.heap.size,0,none⟩ 1 1 [.int .u8 (16 * x+y)] (by rfl) (by rfl) (World.news_of_block (cs:=#[.int .u8 (16 * x+y)]) (t:=5) (fr:=(0,0)) (heap_alloc_new wr _)) (by simp[Value.oneCell'])
           (by omega) (by unfold maxLen;omega) (by omega) (by have:=HBW.out.size;simp;omega) (wr.heap.size+1) (by simp) ?_;intro gg cap2 w3 hown3 hgrow hat3 hlt3))
       have hb3:=((HBW.out.alloc HBW.out.size (.cells #[.int .u8 (16 * x+y)] 5)).drew).grown hgrow (by have:=HBW.out.size;simp;omega) (own_ge HOW.out (Nat.le_refl _))
       rw[←HP.out,take_succ_map _ q (by rw[HQ.out];exact hql)] at hown3
       have HO3:=hide hown3
       have HB3:=hide hb3
       clear hown3 hb3 hgrow
       go_wp2
       go_roundw
       case rel=>exact⟨q+1,p+2,by omega,by go_num,by have:=hp.out;show p+2=2 * (q+1);omega,HO3.out,HB3.out⟩
       case measure=>simp[intOf];omega
      ·have HQ:=hide (pairUp_length (zs.length / 2+1) (halvesOf true zs) HL.out)
       have hqe:(pairUp (halvesOf true zs)).take q=pairUp (halvesOf true zs):=List.take_of_length_le (by rw[HQ.out];omega)
       rw[hqe] at hown
       have hcv:=conv_own hown
       have HF:Hid (Below w.heap.size w wr):=HB2.out.trans (hbw.mono HB2.out.size)
       have b1:(N:Int)≤(p:Int)+1:=by have:=hN.out;have:=hp.out;omega
       have b2:(p:Int)≤1000:=by have:=hp.out;omega
       clear hown hbw hqe
       go_wp2
       go_ret2
       exact⟨rfl,HF.out⟩
   ·have hodd' : ((zs.length:Int) % 2 == 0)=true:=by simp at hodd ⊢;omega
    have ho2:(zs.length:Int) % 2=0:=by simpa using hodd'
    cases leaf
    ·have tok1:True:=trivial
     go_wp2_with (first
      | (at_builtin;have _t:=tok1;go_must (refine wpList_append_lies _ rfl (.tmp 44) (.tmp 45) 80 rfl w.heap.size 3 i0 (.int .i64 0) 1 8 Tryz.underlying80 hi hz0 hz1 hz2 rfl (by decide) _ 1 [.int .i64 0] rfl ((own_one w 0).alloc _) ⟨w.heap.size+1,0,none⟩ 1 1 [.int .i64 0] rfl rfl (by simpa using news_of (w.alloc (.cells #[.int .i64 0] 3)) [.int .i64 0]) (by simp[Value.oneCell']) (by omega) (by unfold maxLen;omega) (by omega) (by simp<;>omega) _ rfl ?_);intro g c w1 hown1 hgrow1 hat1 hlt1;go_must (have hb1:Below w.heap.size w w1:=(below_alloc2 w _ _).grown hgrow1 (by simp<;>omega) (row_ge (Nat.le_refl _)));clear tok1)
      | (at_builtin;go_must (refine wpList_append_reads rfl (.tmp 47) (.tmp 48) 80 rfl w.heap.size 3 i0 (.int .i64 0) 1 8 Tryz.underlying80 hi hz0 hz1 hz2 rfl (by decide) _ 2 [.int .i64 0,.int .i64 0] rfl hown1 _ zs.length (zs.map (Value.int .i64)) rfl (HR.out.keep hb1) (by simp) (ints_one zs) (by unfold maxLen;omega) (by omega) (by have:=hb1.size;omega) ?_);intro v2 w2 hown2 hgrow2))
     have HH:=hide (halvesOf_even (leaf:=false) (zs:=zs) (by omega))
     have hown2:w2.ownsRow w.heap.size 3 1 v2 (2+zs.length) ((halvesOf false zs).map (Value.int .i64)):=by rw[HH.out];exact hown2
     rw[show 2+zs.length=2 * (zs.length / 2+1) from by omega] at hown2
     obtain⟨N,hN⟩:∃N,Hid (2 * (zs.length / 2+1)=N):=⟨_,rfl⟩
     rw[hN.out] at hown2
     have hN1:N≤130:=by have:=hN.out;omega
     obtain⟨ga,ca,rfl,hga,hgl⟩:=hown2.form (by have:=hN.out;omega)
     have HI:=hide (Ints.own hown2)
     have hb2:=hb1.grown hgrow2 hb1.size (own_ge hown1 (Nat.le_refl _))
     have HB2:=hide hb2
     clear hown2 hgrow2 hown1 hgrow1 hat1 hlt1 hb1
     go_loopw [9,10] (fun v i wr=>∃k p:Nat,k≤zs.length / 2+1∧i=.int .i64 (p:Int)∧Hid (p=2 * k)∧wr.ownsRow w2.heap.size 5 1 v k (((pairUp (halvesOf false zs)).take k).map (Value.int .u8))∧Below w2.heap.size w2 wr) (fun _ i _=>N - (intOf i).toNat)
     case atStart=>exact⟨0,0,Nat.zero_le _,rfl,rfl,World.ownsRow_nil _ _ _ _,Below.refl _ _⟩
     case round =>
      obtain⟨q,p,hq,rfl,hp,hown,hbw⟩:=hrel
      by_cases hql:q<zs.length / 2+1
      ·obtain⟨x1,x2⟩:=HN2.out (2 * q) (by rw[HL.out];omega)
       obtain⟨y1,y2⟩:=HN2.out (2 * q+1) (by rw[HL.out];omega)
       obtain⟨b1,o1,e1,c1⟩:=HI.out.get (2 * q) (by rw[HL.out];omega)
       obtain⟨b2,o2,e2,c2⟩:=HI.out.get (2 * q+1) (by rw[HL.out];omega)
       obtain⟨rfl,rfl⟩:ga=b1∧0=o1:=by simpa using e1
       obtain⟨rfl,rfl⟩:ga=b2∧0=o2:=by simpa using e2
       have HP:=hide (pairUp_getD (zs.length / 2+1) q (halvesOf false zs) HL.out hql)
       have HQ:=hide (pairUp_length (zs.length / 2+1) (halvesOf false zs) HL.out)
       clear e1 e2
       generalize (halvesOf false zs).getD (2 * q) 0=x at *
       generalize (halvesOf false zs).getD (2 * q+1) 0=y at *
       rw[Nat.zero_add,←hp.out] at c1 c2
       have hc1:wr.cell? ⟨ga,p,none⟩=some (.int .i64 x):=by rw[hbw.cell (p:=⟨ga,p,none⟩) hgl];exact c1
       have hc2:wr.cell? ⟨ga,p+1,none⟩=some (.int .i64 y):=by rw[hbw.cell (p:=⟨ga,p+1,none⟩) hgl];exact c2
       have hgw:ga<wr.heap.size:=Nat.lt_of_lt_of_le hgl hbw.size
       have hne:some ga≠u9.ownBlock:=fun e=>by have:=(hown.lt ga e.symm).1;omega
       have HNE:=hide hne
       have HOW:=hide hown
       have HBW:=hide hbw
       clear c1 c2 hne hown hbw
       have b0:(0:Int)≤(p:Int):=by omega
       have b1:(p:Int)<(N:Int):=by have:=hN.out;have:=hp.out;omega
       have b2:(p:Int)+1 < (N:Int):=by have:=hN.out;have:=hp.out;omega
       have b3:(0:Int)≤(p:Int)+1:=by omega
       have b4:((p:Int)+1).toNat=p+1:=by omega
       have k1:IntKind.i64.wrap ((p:Int)+1)=(p:Int)+1:=by rw[IntKind.wrap_i64];omega
       have k2:IntKind.i64.wrap (16 * x)=16 * x:=by rw[IntKind.wrap_i64];omega
       have k3:IntKind.i64.wrap (16 * x+y)=16 * x+y:=by rw[IntKind.wrap_i64];omega
       have k4:IntKind.u8.wrap (16 * x+y)=16 * x+y:=by rw[IntKind.wrap_u8];omega
       go_wp2
       go_region_held3 (fun w' => w'.cell? ⟨ga,p,none⟩=some (.int .i64 x)∧w'.cell? ⟨ga,p+1,none⟩=some (.int .i64 y))
        (first
          | go_keep
          | (go_split_ands
             refine⟨?_,?_⟩<;>(rw[hgrow.cell_far _ (by simp;omega) HNE.out];assumption)))
        ((refine step_append_lies _ (by rfl) _ _ _ (by rfl) w2.heap.size 5 j0 _ 1 1 Tryz.underlying144 hj hy0 hy1 hy2 rfl (by omega) u9 q _ (by rfl) ((HOW.out.alloc _).drew)
           ⟨wr.heap.size,0,none⟩ 1 1 [.int .u8 (16 * x+y)] (by rfl) (by rfl) (World.news_of_block (cs:=#[.int .u8 (16 * x+y)]) (t:=5) (fr:=(0,0)) (heap_alloc_new wr _)) (by simp[Value.oneCell'])
           (by omega) (by unfold maxLen;omega) (by omega) (by have:=HBW.out.size;simp;omega) (wr.heap.size+1) (by simp) ?_;intro gg cap2 w3 hown3 hgrow hat3 hlt3))
       have hb3:=((HBW.out.alloc HBW.out.size (.cells #[.int .u8 (16 * x+y)] 5)).drew).grown hgrow (by have:=HBW.out.size;simp;omega) (own_ge HOW.out (Nat.le_refl _))
       rw[←HP.out,take_succ_map _ q (by rw[HQ.out];exact hql)] at hown3
       have HO3:=hide hown3
       have HB3:=hide hb3
       clear hown3 hb3 hgrow
       go_wp2
       go_roundw
       case rel=>exact⟨q+1,p+2,by omega,by go_num,by have:=hp.out;show p+2=2 * (q+1);omega,HO3.out,HB3.out⟩
       case measure=>simp[intOf];omega
      ·have HQ:=hide (pairUp_length (zs.length / 2+1) (halvesOf false zs) HL.out)
       have hqe:(pairUp (halvesOf false zs)).take q=pairUp (halvesOf false zs):=List.take_of_length_le (by rw[HQ.out];omega)
       rw[hqe] at hown
       have hcv:=conv_own hown
       have HF:Hid (Below w.heap.size w wr):=HB2.out.trans (hbw.mono HB2.out.size)
       have b1:(N:Int)≤(p:Int)+1:=by have:=hN.out;have:=hp.out;omega
       have b2:(p:Int)≤1000:=by have:=hp.out;omega
       clear hown hbw hqe
       go_wp2
       go_ret2
       exact⟨rfl,HF.out⟩
    ·have tok1:True:=trivial
     go_wp2_with (first
      | (at_builtin;have _t:=tok1;go_must (refine wpList_append_lies _ rfl (.tmp 44) (.tmp 45) 80 rfl w.heap.size 3 i0 (.int .i64 0) 1 8 Tryz.underlying80 hi hz0 hz1 hz2 rfl (by decide) _ 1 [.int .i64 2] rfl ((own_one w 2).alloc _) ⟨w.heap.size+1,0,none⟩ 1 1 [.int .i64 0] rfl rfl (by simpa using news_of (w.alloc (.cells #[.int .i64 2] 3)) [.int .i64 0]) (by simp[Value.oneCell']) (by omega) (by unfold maxLen;omega) (by omega) (by simp<;>omega) _ rfl ?_);intro g c w1 hown1 hgrow1 hat1 hlt1;go_must (have hb1:Below w.heap.size w w1:=(below_alloc2 w _ _).grown hgrow1 (by simp<;>omega) (row_ge (Nat.le_refl _)));clear tok1)
      | (at_builtin;go_must (refine wpList_append_reads rfl (.tmp 47) (.tmp 48) 80 rfl w.heap.size 3 i0 (.int .i64 0) 1 8 Tryz.underlying80 hi hz0 hz1 hz2 rfl (by decide) _ 2 [.int .i64 2,.int .i64 0] rfl hown1 _ zs.length (zs.map (Value.int .i64)) rfl (HR.out.keep hb1) (by simp) (ints_one zs) (by unfold maxLen;omega) (by omega) (by have:=hb1.size;omega) ?_);intro v2 w2 hown2 hgrow2))
     have HH:=hide (halvesOf_even (leaf:=true) (zs:=zs) (by omega))
     have hown2:w2.ownsRow w.heap.size 3 1 v2 (2+zs.length) ((halvesOf true zs).map (Value.int .i64)):=by rw[HH.out];exact hown2
     rw[show 2+zs.length=2 * (zs.length / 2+1) from by omega] at hown2
     obtain⟨N,hN⟩:∃N,Hid (2 * (zs.length / 2+1)=N):=⟨_,rfl⟩
     rw[hN.out] at hown2
     have hN1:N≤130:=by have:=hN.out;omega
     obtain⟨ga,ca,rfl,hga,hgl⟩:=hown2.form (by have:=hN.out;omega)
     have HI:=hide (Ints.own hown2)
     have hb2:=hb1.grown hgrow2 hb1.size (own_ge hown1 (Nat.le_refl _))
     have HB2:=hide hb2
     clear hown2 hgrow2 hown1 hgrow1 hat1 hlt1 hb1
     go_loopw [9,10] (fun v i wr=>∃k p:Nat,k≤zs.length / 2+1∧i=.int .i64 (p:Int)∧Hid (p=2 * k)∧wr.ownsRow w2.heap.size 5 1 v k (((pairUp (halvesOf true zs)).take k).map (Value.int .u8))∧Below w2.heap.size w2 wr) (fun _ i _=>N - (intOf i).toNat)
     case atStart=>exact⟨0,0,Nat.zero_le _,rfl,rfl,World.ownsRow_nil _ _ _ _,Below.refl _ _⟩
     case round =>
      obtain⟨q,p,hq,rfl,hp,hown,hbw⟩:=hrel
      by_cases hql:q<zs.length / 2+1
      ·obtain⟨x1,x2⟩:=HN2.out (2 * q) (by rw[HL.out];omega)
       obtain⟨y1,y2⟩:=HN2.out (2 * q+1) (by rw[HL.out];omega)
       obtain⟨b1,o1,e1,c1⟩:=HI.out.get (2 * q) (by rw[HL.out];omega)
       obtain⟨b2,o2,e2,c2⟩:=HI.out.get (2 * q+1) (by rw[HL.out];omega)
       obtain⟨rfl,rfl⟩:ga=b1∧0=o1:=by simpa using e1
       obtain⟨rfl,rfl⟩:ga=b2∧0=o2:=by simpa using e2
       have HP:=hide (pairUp_getD (zs.length / 2+1) q (halvesOf true zs) HL.out hql)
       have HQ:=hide (pairUp_length (zs.length / 2+1) (halvesOf true zs) HL.out)
       clear e1 e2
       generalize (halvesOf true zs).getD (2 * q) 0=x at *
       generalize (halvesOf true zs).getD (2 * q+1) 0=y at *
       rw[Nat.zero_add,←hp.out] at c1 c2
       have hc1:wr.cell? ⟨ga,p,none⟩=some (.int .i64 x):=by rw[hbw.cell (p:=⟨ga,p,none⟩) hgl];exact c1
       have hc2:wr.cell? ⟨ga,p+1,none⟩=some (.int .i64 y):=by rw[hbw.cell (p:=⟨ga,p+1,none⟩) hgl];exact c2
       have hgw:ga<wr.heap.size:=Nat.lt_of_lt_of_le hgl hbw.size
       have hne:some ga≠u9.ownBlock:=fun e=>by have:=(hown.lt ga e.symm).1;omega
       have HNE:=hide hne
       have HOW:=hide hown
       have HBW:=hide hbw
       clear c1 c2 hne hown hbw
       have b0:(0:Int)≤(p:Int):=by omega
       have b1:(p:Int)<(N:Int):=by have:=hN.out;have:=hp.out;omega
       have b2:(p:Int)+1 < (N:Int):=by have:=hN.out;have:=hp.out;omega
       have b3:(0:Int)≤(p:Int)+1:=by omega
       have b4:((p:Int)+1).toNat=p+1:=by omega
       have k1:IntKind.i64.wrap ((p:Int)+1)=(p:Int)+1:=by rw[IntKind.wrap_i64];omega
       have k2:IntKind.i64.wrap (16 * x)=16 * x:=by rw[IntKind.wrap_i64];omega
       have k3:IntKind.i64.wrap (16 * x+y)=16 * x+y:=by rw[IntKind.wrap_i64];omega
       have k4:IntKind.u8.wrap (16 * x+y)=16 * x+y:=by rw[IntKind.wrap_u8];omega
       go_wp2
       go_region_held3 (fun w' => w'.cell? ⟨ga,p,none⟩=some (.int .i64 x)∧w'.cell? ⟨ga,p+1,none⟩=some (.int .i64 y))
        (first
          | go_keep
          | (go_split_ands
             refine⟨?_,?_⟩<;>(rw[hgrow.cell_far _ (by simp;omega) HNE.out];assumption)))
        ((refine step_append_lies _ (by rfl) _ _ _ (by rfl) w2.heap.size 5 j0 _ 1 1 Tryz.underlying144 hj hy0 hy1 hy2 rfl (by omega) u9 q _ (by rfl) ((HOW.out.alloc _).drew)
           ⟨wr.heap.size,0,none⟩ 1 1 [.int .u8 (16 * x+y)] (by rfl) (by rfl) (World.news_of_block (cs:=#[.int .u8 (16 * x+y)]) (t:=5) (fr:=(0,0)) (heap_alloc_new wr _)) (by simp[Value.oneCell'])
           (by omega) (by unfold maxLen;omega) (by omega) (by have:=HBW.out.size;simp;omega) (wr.heap.size+1) (by simp) ?_;intro gg cap2 w3 hown3 hgrow hat3 hlt3))
       have hb3:=((HBW.out.alloc HBW.out.size (.cells #[.int .u8 (16 * x+y)] 5)).drew).grown hgrow (by have:=HBW.out.size;simp;omega) (own_ge HOW.out (Nat.le_refl _))
       rw[←HP.out,take_succ_map _ q (by rw[HQ.out];exact hql)] at hown3
       have HO3:=hide hown3
       have HB3:=hide hb3
       clear hown3 hb3 hgrow
       go_wp2
       go_roundw
       case rel=>exact⟨q+1,p+2,by omega,by go_num,by have:=hp.out;show p+2=2 * (q+1);omega,HO3.out,HB3.out⟩
       case measure=>simp[intOf];omega
      ·have HQ:=hide (pairUp_length (zs.length / 2+1) (halvesOf true zs) HL.out)
       have hqe:(pairUp (halvesOf true zs)).take q=pairUp (halvesOf true zs):=List.take_of_length_le (by rw[HQ.out];omega)
       rw[hqe] at hown
       have hcv:=conv_own hown
       have HF:Hid (Below w.heap.size w wr):=HB2.out.trans (hbw.mono HB2.out.size)
       have b1:(N:Int)≤(p:Int)+1:=by have:=hN.out;have:=hp.out;omega
       have b2:(p:Int)≤1000:=by have:=hp.out;omega
       clear hown hbw hqe
       go_wp2
       go_ret2
       exact⟨rfl,HF.out⟩
def nibs:List UInt8→List Int
 | []=>[]
 | b :: r=>(b.toNat:Int) / 16 :: (b.toNat:Int) % 16 :: nibs r
theorem nibs_length (l:List UInt8):(nibs l).length=2 * l.length:=by
 induction l with
 | nil=>rfl
 | cons b r ih=>simp[nibs,ih];omega
theorem nibs_append (l m:List UInt8):nibs (l++m)=nibs l++nibs m:=by
 induction l with
 | nil=>rfl
 | cons b r ih=>simp[nibs,ih]
theorem take_snoc (s:ByteArray)(k:Nat)(h:k<s.size):s.data.toList.take (k+1)=s.data.toList.take k++[s[k]]:=by
 rw[List.take_succ_eq_append_getElem (by simpa using h)];rfl
theorem nibs_snoc (s:ByteArray)(k:Nat)(h:k<s.size):(nibs (s.data.toList.take (k+1))).map (Value.int .i64)=(nibs (s.data.toList.take k)).map (Value.int .i64)++[.int .i64 ((s[k].toNat:Int) / 16),.int .i64 ((s[k].toNat:Int) % 16)]:=by
 rw[take_snoc s k h,nibs_append];simp[nibs]
set_option maxRecDepth 100000 in
theorem halves_any (s:ByteArray)(w:World)(hs:s.size≤2097152) :
  Calls Tryz.prog 21 #[.string s] w fun e w' => ∃v,e=.returned v∧w'.ownsRow w.heap.size 3 1 v (2 * s.size) ((nibs s.data.toList).map (Value.int .i64))∧Below w.heap.size w w' := by
 obtain⟨i0,hi,hz0,hz1,hz2⟩:=info_parts info3
 go_enter Tryz.func21,Tryz.ntmps21
 go_wp2
 go_loopw [3,4] (fun v i wr=>∃k:Nat,k≤s.size∧i=.int .i64 (k:Int)∧wr.ownsRow w.heap.size 3 1 v (2 * k) ((nibs (s.data.toList.take k)).map (Value.int .i64))∧Below w.heap.size w wr) (fun _ i _=>s.size - (intOf i).toNat)
 case atStart=>exact⟨0,Nat.zero_le _,rfl,World.ownsRow_nil _ _ _ _,Below.refl _ _⟩
 case round =>
  obtain⟨k,hk,rfl,hown,hbw⟩:=hrel
  by_cases hlt:k<s.size
  ·have HS:=hide (nibs_snoc s k hlt)
   have hb1:(0:Int)≤(s[k].toNat:Int):=by omega
   have hb2:(s[k].toNat:Int)<256:=by have:=s[k].toNat_lt;omega
   have HOW:=hide hown
   have HBW:=hide hbw
   clear hown hbw
   have b0:(0:Int)≤(k:Int):=by omega
   have b1:(k:Int)<(s.size:Int):=by omega
   have k1:IntKind.i64.wrap (s[k].toNat:Int)=(s[k].toNat:Int):=by rw[IntKind.wrap_i64];omega
   have k2:(s[k].toNat:Int).tdiv 16=(s[k].toNat:Int) / 16:=Int.tdiv_eq_ediv_of_nonneg hb1
   have k3:(s[k].toNat:Int).tmod 16=(s[k].toNat:Int) % 16:=Int.tmod_eq_emod_of_nonneg hb1
   have k4:IntKind.i64.wrap ((s[k].toNat:Int) / 16)=(s[k].toNat:Int) / 16:=by rw[IntKind.wrap_i64];omega
   go_wp2
   go_region_held3 (fun _=>True) (first|trivial|go_keep)
    ((refine step_append_lies _ (by rfl) _ _ _ (by rfl) w.heap.size 3 i0 _ 1 8 Tryz.underlying80 hi hz0 hz1 hz2 rfl (by omega) u3 (2 * k) _ (by rfl) ((HOW.out.alloc _).drew)
       ⟨wr.heap.size,0,none⟩ 2 2 [.int .i64 ((s[k].toNat:Int) / 16),.int .i64 ((s[k].toNat:Int) % 16)] (by rfl) (by rfl) (World.news_of_block (cs:=#[.int .i64 ((s[k].toNat:Int) / 16),.int .i64 ((s[k].toNat:Int) % 16)]) (t:=3) (fr:=(0,0)) (heap_alloc_new wr _)) (by simp[Value.oneCell'])
       (by omega) (by unfold maxLen;omega) (by omega) (by have:=HBW.out.size;simp;omega) (wr.heap.size+1) (by simp) ?_;intro gg cap2 w3 hown3 hgrow hat3 hlt3))
   all_goals
    have hb3:=((HBW.out.alloc HBW.out.size _).drew).grown hgrow (by have:=HBW.out.size;simp;omega) (own_ge HOW.out (Nat.le_refl _))
    rw[←HS.out] at hown3
    have HO3:=hide hown3
    have HB3:=hide hb3
    clear hown3 hb3 hgrow
    go_wp2
    go_roundw
    case rel=>exact⟨k+1,by omega,by go_num,by rw[show 2 * (k+1)=2 * k+2 from by omega];exact HO3.out,HB3.out⟩
    case measure=>simp[intOf];omega
  ·have hke:k=s.size:=by omega
   have HF:Hid (wr.ownsRow w.heap.size 3 1 u3 (2 * s.size) ((nibs s.data.toList).map (Value.int .i64))):=by
    show wr.ownsRow w.heap.size 3 1 u3 (2 * s.size) ((nibs s.data.toList).map (Value.int .i64))
    rw[←hke]
    rw[List.take_of_length_le (by rw[hke,Array.length_toList];exact Nat.le_refl _)] at hown
    exact hown
   have HBW:=hide hbw
   clear hown hbw hke
   go_wp2
   go_ret
   exact⟨_,rfl,HF.out,HBW.out⟩
end Go.Proofs.YthdjmldddjljfaaGreatDoor.V
