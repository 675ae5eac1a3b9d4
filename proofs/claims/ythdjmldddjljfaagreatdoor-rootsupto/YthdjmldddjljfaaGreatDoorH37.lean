/-
  OUR OWN.
-/
import Derived.Test.YthdjmldddjljfaaGreatDoorH36
import Derived.Test.YthdjmldddjljfaaGreatDoorH35
set_option maxHeartbeats 8000000
set_option maxRecDepth 20000
namespace Go.Proofs.YthdjmldddjljfaaGreatDoor
open Go.RowKit
attribute [local go_sem ↓] Go.wp_at_zero Go.wp_at_succ
theorem isEmptyV {s:ByteArray}(h:¬s.size=0):s.toList.isEmpty=false:=empty_of_ne (fun e=>h (by rw[e];rfl))
theorem meth_tw_leaf (b : Nat) (w : World) : (method 438 153 (ptr b) "canopy/tree.toward").run Tryz.prog w = .ok (209, ptr b) w := by kernel_rfl
theorem meth_tw_ext (b : Nat) (w : World) : (method 438 250 (ptr b) "canopy/tree.toward").run Tryz.prog w = .ok (233, ptr b) w := by kernel_rfl
theorem meth_tw_br (b : Nat) (w : World) : (method 438 252 (ptr b) "canopy/tree.toward").run Tryz.prog w = .ok (240, ptr b) w := by kernel_rfl
def lenV:Value→Nat
 | .slice _ n _=>n
 | _=>0
structure GT (w:World)(Hk:Nd→ByteArray→Prop)(ok:Nat→Prop)(gp:Nat)(A:ByteArray)(n:Nd)(p:List Nat)(d op cap:Nat)(v:Value)(g:ByteArray)(av:Value)(wr:World):Prop where
 pc:p.length≤cap
 nums:Nums wr (some ⟨gp,op,none⟩) p
 dp:d+p.length≤400
 nib:∀i∈p,i<16
 wf:n.WF
 nn:n≠.nil
 node:NdAt Hk ok wr n v
 box:wr.heap[w.heap.size+1]? = some (.cells #[v,.string g,av,.int .i64 (d:Int)] 110 (0,0))
 bel:Below w.heap.size w wr
 ans:n.look p=A
def gotE (A:ByteArray):Ending:=if A.size=0 then .returned (.tuple #[.string e0,.int .i64 10]) else .returned (.tuple #[.string A,.int .i64 0])
theorem gotE_no {A:ByteArray}(h:A=e0):gotE A=.returned (.tuple #[.string e0,.int .i64 10]):=by subst h;rfl
theorem gotE_yes {A x:ByteArray}(h:A=x)(hx:x.size≠0):gotE A=.returned (.tuple #[.string x,.int .i64 0]):=by subst h;unfold gotE;rw[if_neg hx]
theorem gt_next {w W:World}{Hk:Nd→ByteArray→Prop}{ok:Nat→Prop}{gp:Nat}{A:ByteArray}{n:Nd}{p:List Nat}{d op cap:Nat}{v:Value}{g:ByteArray}{mv a b c e:Value}(hok:∀k,ok k→k<w.heap.size)(hgl:p≠[]→gp<w.heap.size)
  (hbox:W.heap[w.heap.size+1]? = some (.cells #[a,b,c,e] 110 (0,0))) (pc:p.length≤cap) (nums:Nums W (some ⟨gp,op,none⟩) p) (dp:d+p.length≤400) (nib:∀i∈p,i<16) (wf:n.WF) (nn:n≠.nil) (node:NdAt Hk ok W n v) (bel:Below w.heap.size w W) (ans:n.look p=A) :
  GT w Hk ok gp A n p d op cap v g mv ((((W.setCell ⟨w.heap.size+1,0,none⟩ v).setCell ⟨w.heap.size+1,1,none⟩ (.string g)).setCell ⟨w.heap.size+1,2,none⟩ mv).setCell ⟨w.heap.size+1,3,none⟩ (.int .i64 (d:Int))):=by
 have ho:∀k,k≠w.heap.size+1→((((W.setCell ⟨w.heap.size+1,0,none⟩ v).setCell ⟨w.heap.size+1,1,none⟩ (.string g)).setCell ⟨w.heap.size+1,2,none⟩ mv).setCell ⟨w.heap.size+1,3,none⟩ (.int .i64 (d:Int))).heap[k]? = W.heap[k]?:=fun k hk=>by
  rw[Below.heap_setCell _ _ _ _ (fun e=>hk e),Below.heap_setCell _ _ _ _ (fun e=>hk e),Below.heap_setCell _ _ _ _ (fun e=>hk e),Below.heap_setCell _ _ _ _ (fun e=>hk e)]
 refine⟨pc,?_,dp,nib,wf,nn,NdAt.keepIn (fun k hk _=>ho k (by have:=hok k hk;omega)) _ _ node,setFour hbox _ _ _ _,belowFour bel (by omega) _ _ _ _,ans⟩
 exact nums.keepIn (ok:=fun k=>k<w.heap.size) (fun a e hn=>by injection e with e;rw[←e];exact hgl hn) (fun k hk _=>ho k (by have:k<w.heap.size:=hk;omega))
theorem get_some (Hk:Nd→ByteArray→Prop)(ok:Nat→Prop)(st:Value)(n0:Nd)(v0:Value)(g0:ByteArray)(gp op cap:Nat)(P:List Nat)(w:World)(hok:∀k,ok k→k<w.heap.size)(hn:NdAt Hk ok w n0 v0)(hnn:n0≠.nil)(hw:n0.WF)(hP:Nums w (some ⟨gp,op,none⟩) P)(hc:P.length≤cap)(hPl:P.length≤400)(h16:∀i∈P,i<16)(hlen:n0.Len 400) :
  Calls Tryz.prog 77 #[.func (.func 78) #[st] #[],.agg #[v0,.string g0],.slice (some ⟨gp,op,none⟩) P.length cap] w fun e w' => e=gotE (n0.look P)∧Below w.heap.size w w' := by
 obtain⟨t0,b0,rfl⟩:=hn.some hnn
 have hgl:P≠[]→gp<w.heap.size:=fun h=>hP.lt _ rfl h
 have HE:Hid (∀o,(w.alloc o).heap[w.heap.size]? = some (.cells #[.iface t0 (ptr b0),.string g0] 65 (0,0))→Calls Tryz.prog 80 #[.pointer (some ⟨w.heap.size,0,none⟩)] (w.alloc o) fun e w' => e=.returned (.bool false)∧w' = w.alloc o):=fun o hW=>isEmpty_no w.heap.size 0 t0 b0 (w.alloc o) (cell_of_row _ _ 0 _ _ (0,0) hW)
 have hB2:∀o1 o2,Below w.heap.size w ((w.alloc o1).alloc o2):=fun o1 o2=>(below_alloc w o1).alloc (by simp) _
 have HS0:Hid (∀o1,GT w Hk ok gp (n0.look P) n0 P 0 op cap (.iface t0 (ptr b0)) g0 .nilIface ((w.alloc o1).alloc (.cells #[.iface t0 (ptr b0),.string g0,.nilIface,.int .i64 0] 110))∧P.length≤400):=fun o1 =>
  ⟨⟨hc,hP.keep (hB2 _ _) (Nat.le_refl _),by omega,h16,hw,hnn,hn.keep (hB2 _ _),by
   have h2:=heap_alloc_new (w.alloc o1) (.cells #[.iface t0 (ptr b0),.string g0,.nilIface,.int .i64 0] 110)
   rw[World.size_alloc] at h2
   exact h2,hB2 _ _,rfl⟩,hPl⟩
 have HOK:=hide hok
 have HGL:Hid (∀k,k≤P.length→P.drop k≠[]→gp<w.heap.size):=fun k _ h=>hgl (fun e=>h (by rw[e];simp))
 generalize n0.look P=A at *
 have HLn:=hide hlen
 clear hP hB2 h16 hn hok hgl hlen hw
 have m1:=meth_tw_leaf
 have m2:=meth_tw_ext
 have m3:=meth_tw_br
 unfold ptr at m1 m2 m3
 unfold ptr at HE HS0
 unfold ptr
 go_enter Tryz.func77,Tryz.ntmps77
 go_wp2_with fail
 refine (HE.out _ (heap_alloc_new w _)).mono ?_
 rintro e w1 ⟨rfl,rfl⟩
 go_wp2_with fail
 go_loopw [2] (fun pv wr=>∃n p d op cap v g av,pv=.slice (some ⟨gp,op,none⟩) p.length cap∧isNd av∧n.Len (400 - d)∧(p≠[]→gp<w.heap.size)∧GT w Hk ok gp A n p d op cap v g av wr) (fun pv _=>lenV pv)
 case atStart=>exact⟨_,P,0,op,cap,_,_,_,rfl,.inl rfl,HLn.out,fun h=>HGL.out 0 (Nat.zero_le _) (by simpa using h),(HS0.out _).1⟩
 case round =>
  obtain⟨n,p,d,op', cap', v,g,av,rfl,hav,hle,hglp,hs⟩:=hrel
  have HS:=hide hs
  obtain⟨tn,bn,rfl⟩:=hs.node.some hs.nn
  have x0:wr.cell? ⟨w.heap.size+1,0,none⟩=some (.iface tn (ptr bn)):=cell_of_row _ _ 0 _ _ (0,0) hs.box
  have x1:wr.cell? ⟨w.heap.size+1,1,none⟩=some (.string g):=cell_of_row _ _ 1 _ _ (0,0) hs.box
  have x2:wr.cell? ⟨w.heap.size+1,2,none⟩=some av:=cell_of_row _ _ 2 _ _ (0,0) hs.box
  have x3:wr.cell? ⟨w.heap.size+1,3,none⟩=some (.int .i64 (d:Int)):=cell_of_row _ _ 3 _ _ (0,0) hs.box
  have hTl:w.heap.size+1 < wr.heap.size:=(aGe.1 hs.box).1
  have HR1:=hide (read_any st tn bn g av (d:Int) wr)
  unfold ptr at HR1 x0
  clear hs
  go_wp2_with (first
   | (refine wpList_load_row rfl 110 (.tmp 8) rfl (w.heap.size+1) rfl 110 _ (0,0) _ HS.out.box Tryz.underlying110 rfl (by kernel_rfl) ?_)
   | fail)
  refine HR1.out.mono ?_
  rintro e w2 ⟨rfl,hb2⟩
  have HB2:Hid (Below w.heap.size w w2):=HS.out.bel.trans (hb2.mono HS.out.bel.size)
  have hbox2:w2.heap[w.heap.size+1]? = some (.cells #[.iface tn (.pointer (some ⟨bn,0,none⟩)),.string g,av,.int .i64 (d:Int)] 110 (0,0)):=(hb2.block _ hTl).trans HS.out.box
  have HNu:Hid (Nums w2 (some ⟨gp,op', none⟩) p):=HS.out.nums.keep hb2 (Nat.le_refl _)
  have HNd:Hid (NdAt Hk ok w2 n (.iface tn (ptr bn))):=HS.out.node.keep hb2
  have hTl2:w.heap.size+1 < w2.heap.size:=(aGe.1 hbox2).1
  have HBX:Hid (∀W o,Below w2.heap.size w2 W→(W.alloc o).heap[w.heap.size+1]? = some (.cells #[.iface tn (.pointer (some ⟨bn,0,none⟩)),.string g,av,.int .i64 (d:Int)] 110 (0,0))):=fun W o hW=>(Below.heap_alloc _ _ _ (Nat.lt_of_lt_of_le hTl2 hW.size)).trans ((hW.block _ hTl2).trans hbox2)
  have HFin:Hid (∀W o,Below w2.heap.size w2 W→Below w.heap.size w (W.alloc o)):=fun W o hW=>HB2.out.trans ((hW.alloc hW.size o).mono HB2.out.size)
  clear hb2 hbox2 hTl
  have hmw:=HS.out.wf
  have hmx:=HNd.out
  cases n with
  | nil=>exact absurd rfl HS.out.nn
  | leaf q x =>
    obtain⟨b,ao,ca,hv,o1,o2,hblk,hq,hq0,hqc⟩:=hmx
    obtain⟨rfl,rfl⟩:tn=153∧bn=b:=by simpa[ptr] using hv
    have hql:q.length≤400:=by simp only[Nd.Len] at hle;omega
    have HTw:=hide (leafToward_any bn ao (some ⟨gp,op', none⟩) ca cap' q p x w2 hblk hq HNu.out (by omega))
    have hx:=isEmptyV hmw.1
    have HA:Hid ((q=p→A=x)∧(q≠p→A=e0)):=⟨fun h=>by rw[←HS.out.ans];simp[Nd.look,h],fun h=>by rw[←HS.out.ans];simp[Nd.look,h]⟩
    have HXs:=hide hmw.1
    clear hblk hq hq0 hqc hmw hv o1 o2
    unfold ptr at *
    by_cases hqp:q=p
    ·rw[decide_eq_true hqp] at HTw
     have HA2:=hide (HA.out.1 hqp)
     clear hqp
     go_wp2_with fail
     refine HTw.out.mono ?_
     rintro e w3 ⟨rfl,hb3⟩
     have HB3:=hide hb3
     clear hb3
     go_wp2
     go_ret2
     exact⟨(gotE_yes HA2.out HXs.out).symm,HFin.out _ _ HB3.out⟩
    ·rw[decide_eq_false hqp] at HTw
     have HA2:=hide (HA.out.2 hqp)
     clear hqp
     go_wp2_with fail
     refine HTw.out.mono ?_
     rintro e w3 ⟨rfl,hb3⟩
     have HB3:=hide hb3
     clear hb3
     go_wp2
     go_ret2
     exact⟨(gotE_no HA2.out).symm,HFin.out _ _ HB3.out⟩
  | ext q m =>
    obtain⟨b,ao,ca,u', g', hv,o1,o2,hblk,hq,hq0,hqc,hsub,hsh⟩:=hmx
    obtain⟨rfl,rfl⟩:tn=250∧bn=b:=by simpa[ptr] using hv
    obtain⟨hw1,hw2,hw3,hw4⟩:=hmw
    obtain⟨hl1,hl2⟩:=hle
    have hmn:=nil_of_br hw3
    obtain⟨tt,ub,rfl⟩:=hsub.some hmn
    have HTw:=hide (extToward_any bn ao (some ⟨gp,op', none⟩) ca cap' q p _ g' w2 hsub.isNd hblk hq HNu.out (by omega))
    have HSub:=hide hsub
    clear hblk hq hq0 hqc hsub hv o1 o2
    by_cases hpre:q <+: p
    ·rw[decide_eq_true hpre] at HTw
     have hql:q.length≤p.length:=hpre.length_le
     have hq0:0 < q.length:=List.length_pos_iff.2 hw1
     have hpc:=HS.out.pc
     have hdp:=HS.out.dp
     have HAn:Hid (m.look (p.drop q.length)=A):=by show _=_;rw[←HS.out.ans];simp[Nd.look,hpre]
     have HNx:Hid (∀W (o:Obj) (op2 cap2:Nat),Below w2.heap.size w2 W→(p.drop q.length=[]∨op2=op' + q.length)→p.length - q.length≤cap2→GT w Hk ok gp A m (p.drop q.length) (d+q.length) op2 cap2 (.iface tt (ptr ub)) g' (.iface 250 (ptr bn)) (((((W.alloc o).setCell ⟨w.heap.size+1,0,none⟩ (.iface tt (ptr ub))).setCell ⟨w.heap.size+1,1,none⟩ (.string g')).setCell ⟨w.heap.size+1,2,none⟩ (.iface 250 (ptr bn))).setCell ⟨w.heap.size+1,3,none⟩ (.int .i64 ((d+q.length:Nat):Int)))):=fun W o op2 cap2 hW ho hc2=>by
      have hWo:Below w2.heap.size w2 (W.alloc o):=hW.alloc hW.size o
      refine gt_next HOK.out (fun h=>hglp (fun e=>h (by rw[e];simp))) (HBX.out W o hW) (by rw[List.length_drop];exact hc2) ?_ (by rw[List.length_drop];omega) (fun i hi=>HS.out.nib i (List.mem_of_mem_drop hi)) hw4 hmn (HSub.out.keep hWo) (HFin.out W o hW) HAn.out
      rcases ho with ho|rfl
      ·rw[ho];exact Nums.nil (fun a e=>by injection e with e;rw[←e])
      ·exact (HNu.out.drop q.length).keep hWo (Nat.le_refl _)
     have HLen:Hid ((p.drop q.length).length=p.length - q.length∧m.Len (400 - (d+q.length))∧(p.drop q.length≠[]→gp<w.heap.size)):=⟨by rw[List.length_drop],by rw[←Nat.sub_sub];exact hl2,fun h=>hglp (fun e=>h (by rw[e];simp))⟩
     have j1:(q.length:Int)≤(p.length:Int):=by omega
     have j2:(p.length:Int)≤(cap' : Int):=by omega
     have j3:(0:Int)≤(q.length:Int):=by omega
     have j4:IntKind.i64.wrap ((d:Int)+(q.length:Int))=(d:Int)+(q.length:Int):=by rw[IntKind.wrap_i64];omega
     have HTl:=hide hTl2
     clear hpre hpc hw1 hw2 hw3 hw4 hl1 hl2 hTl2 hdp
     clear m1 m3 HR1 x0 x1 x2 x3
     unfold ptr at *
     go_wp2_with fail
     refine HTw.out.mono ?_
     rintro e w3 ⟨rfl,hb3⟩
     have y:=HBX.out w3 (.cells #[.slice ao q.length ca,.string e0,.iface tt (.pointer (some ⟨ub,0,none⟩)),.string g'] 191) hb3
     have y0:=cell_of_row _ _ 0 _ _ (0,0) y
     have y1:=cell_of_row _ _ 1 _ _ (0,0) y
     have y2:=cell_of_row _ _ 2 _ _ (0,0) y
     have y3:=cell_of_row _ _ 3 _ _ (0,0) y
     have f0:=frozen_of_row _ (w.heap.size+1) 0 _ _ y
     have f1:=frozen_of_row _ (w.heap.size+1) 1 _ _ y
     have f2:=frozen_of_row _ (w.heap.size+1) 2 _ _ y
     have f3:=frozen_of_row _ (w.heap.size+1) 3 _ _ y
     have hne:¬w3.heap.size=w.heap.size+1:=by have:=HTl.out;have:=hb3.size;omega
     have HB3:=hide hb3
     clear hb3 y HTw m2
     simp only[List.getElem?_toArray,List.getElem?_cons_zero,List.getElem?_cons_succ] at y0 y1 y2 y3
     go_wp2_with fail
     by_cases hcq:cap' = q.length
     ·rw[if_pos hcq]
      exact⟨⟨m,p.drop q.length,d+q.length,op', cap' - q.length,_,g', _,by rw[HLen.out.1],.inr ⟨_,bn,rfl⟩,HLen.out.2.1,HLen.out.2.2,by have h:=HNx.out w3 (.cells #[.slice ao q.length ca,.string e0,.iface tt (.pointer (some ⟨ub,0,none⟩)),.string g'] 191) op' (cap' - q.length) HB3.out (.inl (by rw[List.drop_eq_nil_iff];omega)) (by omega);rw[Int.natCast_add] at h;exact h⟩,by simp only[lenV];omega⟩
     ·rw[if_neg hcq]
      exact⟨⟨m,p.drop q.length,d+q.length,op' + q.length,cap' - q.length,_,g', _,by rw[HLen.out.1],.inr ⟨_,bn,rfl⟩,HLen.out.2.1,HLen.out.2.2,by have h:=HNx.out w3 (.cells #[.slice ao q.length ca,.string e0,.iface tt (.pointer (some ⟨ub,0,none⟩)),.string g'] 191) (op' + q.length) (cap' - q.length) HB3.out (.inr rfl) (by omega);rw[Int.natCast_add] at h;exact h⟩,by simp only[lenV];omega⟩
    ·rw[decide_eq_false hpre] at HTw
     have HA2:Hid (A=e0):=by show _=_;rw[←HS.out.ans];simp[Nd.look,hpre]
     clear hpre
     unfold ptr at *
     go_wp2_with fail
     refine HTw.out.mono ?_
     rintro e w3 ⟨rfl,hb3⟩
     have HB3:=hide hb3
     clear hb3
     go_wp2
     go_ret2
     exact⟨(gotE_no HA2.out).symm,HFin.out _ _ HB3.out⟩
  | br c x =>
    obtain⟨b,us,hs,hv,o1,hblk,hch⟩:=hmx
    obtain⟨rfl,rfl⟩:tn=252∧bn=b:=by simpa[ptr] using hv
    obtain⟨hw1,hw2,hw3⟩:=hmw
    cases p with
    | nil =>
      have HTw:=hide (brToward_nil bn (some ⟨gp,op', none⟩) cap' us hs x w2 hblk)
      have HAn:Hid (A=x):=by show _=_;rw[←HS.out.ans,look_nil']
      clear hblk hch hv hw1 hw2 hw3
      unfold ptr at *
      by_cases hx:x.size=0
      ·have heb:decide (x.size≠0)=false:=by simp[hx]
       rw[heb] at HTw
       have HA2:Hid (A=e0):=by show _=_;rw[HAn.out];exact e0_of hx
       clear heb hx
       go_wp2_with fail
       refine HTw.out.mono ?_
       rintro e w3 ⟨rfl,hb3⟩
       have HB3:=hide hb3
       clear hb3
       go_wp2
       go_ret2
       exact⟨(gotE_no HA2.out).symm,HFin.out _ _ HB3.out⟩
      ·have heb:decide (x.size≠0)=true:=by simp[hx]
       rw[heb] at HTw
       have hxe:=isEmptyV hx
       have HXs:=hide hx
       clear heb hx
       go_wp2_with fail
       refine HTw.out.mono ?_
       rintro e w3 ⟨rfl,hb3⟩
       have HB3:=hide hb3
       clear hb3
       go_wp2
       go_ret2
       exact⟨(gotE_yes HAn.out HXs.out).symm,HFin.out _ _ HB3.out⟩
    | cons i p' =>
      have hi16:i<16:=HS.out.nib i (List.mem_cons_self ..)
      have hcl:w2.cell? ⟨gp,op', none⟩=some (.int .i64 (i:Int)):=by
       obtain⟨b', o', e,hc'⟩:=HNu.out.at' 0 (by simp)
       obtain⟨rfl,rfl⟩:gp=b' ∧ op' = o' := by simpa using e
       simpa using hc'
      have hpc:=HS.out.pc
      have hdp:=HS.out.dp
      simp only[List.length_cons] at hpc hdp
      have hsub:=(hch i hi16).1
      have hsh:=(hch i hi16).2
      have HTw:=hide (brToward_cons bn i gp op' cap' p'.length us hs x w2 hi16 hsub.isNd hblk hcl hpc)
      have HAn:Hid ((c i).look p' = A):=by show _=_;rw[←HS.out.ans,look_cons]
      have hwk:=hw1 i
      have hle2:=hle.2 i
      have hglp2:gp<w.heap.size:=hglp (by simp)
      clear hblk hch hw1 hw2 hw3 hcl hv hle hglp
      by_cases hcn:c i=.nil
      ·rw[hcn] at hsub
       have hu:us i=.nilIface:=hsub
       have hh:hs i=e0:=by
        rcases hsh with h|⟨h,_⟩
        ·exact h
        ·exact absurd hcn h
       rw[hu,hh] at HTw
       have heb:(!emptyB .nilIface e0)=false:=rfl
       rw[heb] at HTw
       have HA2:Hid (A=e0):=by show _=_;rw[←HAn.out,hcn];simp[Nd.look]
       clear hcn hsub hu hh hsh hpc heb
       unfold ptr at *
       go_wp2_with fail
       refine HTw.out.mono ?_
       rintro e w3 ⟨rfl,hb3⟩
       have HB3:=hide hb3
       clear hb3
       go_wp2
       go_ret2
       exact⟨(gotE_no HA2.out).symm,HFin.out _ _ HB3.out⟩
      ·obtain⟨tt,ub,hu⟩:=hsub.some hcn
       rw[hu] at HTw hsub
       have heb:(!emptyB (.iface tt (ptr ub)) (hs i))=true:=rfl
       rw[heb] at HTw
       have HSub:=hide hsub
       generalize hs i=g' at *
       have HNx:Hid (∀W (o:Obj) (op2 cap2:Nat),Below w2.heap.size w2 W→(p' = []∨op2=op' + 1)→p'.length≤cap2→GT w Hk ok gp A (c i) p' (d+1) op2 cap2 (.iface tt (ptr ub)) g' (.iface 252 (ptr bn)) (((((W.alloc o).setCell ⟨w.heap.size+1,0,none⟩ (.iface tt (ptr ub))).setCell ⟨w.heap.size+1,1,none⟩ (.string g')).setCell ⟨w.heap.size+1,2,none⟩ (.iface 252 (ptr bn))).setCell ⟨w.heap.size+1,3,none⟩ (.int .i64 ((d+1:Nat):Int)))):=fun W o op2 cap2 hW ho hc2=>by
        have hWo:Below w2.heap.size w2 (W.alloc o):=hW.alloc hW.size o
        refine gt_next HOK.out (fun _=>hglp2) (HBX.out W o hW) hc2 ?_ (by omega) (fun j hj=>HS.out.nib j (List.mem_cons_of_mem _ hj)) hwk hcn (HSub.out.keep hWo) (HFin.out W o hW) HAn.out
        rcases ho with rfl|rfl
        ·exact Nums.nil (fun a e=>by injection e with e;rw[←e])
        ·have:=(HNu.out.drop 1).keep hWo (Nat.le_refl _)
         simpa using this
       have HLe:Hid ((c i).Len (400 - (d+1))):=by show Nd.Len _ _;rw[←Nat.sub_sub];exact hle2
       have j1:(1:Int)≤(p'.length:Int)+1:=by omega
       have j2:(p'.length:Int)+1≤(cap' : Int):=by omega
       have j4:IntKind.i64.wrap ((d:Int)+1)=(d:Int)+1:=by rw[IntKind.wrap_i64];omega
       have HTl:=hide hTl2
       clear hcn hsub hsh heb hwk hle2 hdp hTl2
       clear m1 m2 HR1 x0 x1 x2 x3
       unfold ptr at *
       go_wp2_with fail
       refine HTw.out.mono ?_
       rintro e w3 ⟨rfl,hb3⟩
       have y:=HBX.out w3 (.cells #[.slice (some ⟨gp,op', none⟩) 1 cap', .string e0,.iface tt (.pointer (some ⟨ub,0,none⟩)),.string g'] 191) hb3
       have y0:=cell_of_row _ _ 0 _ _ (0,0) y
       have y1:=cell_of_row _ _ 1 _ _ (0,0) y
       have y2:=cell_of_row _ _ 2 _ _ (0,0) y
       have y3:=cell_of_row _ _ 3 _ _ (0,0) y
       have f0:=frozen_of_row _ (w.heap.size+1) 0 _ _ y
       have f1:=frozen_of_row _ (w.heap.size+1) 1 _ _ y
       have f2:=frozen_of_row _ (w.heap.size+1) 2 _ _ y
       have f3:=frozen_of_row _ (w.heap.size+1) 3 _ _ y
       have hne:¬w3.heap.size=w.heap.size+1:=by have:=HTl.out;have:=hb3.size;omega
       have HB3:=hide hb3
       clear hb3 y HTw m3
       simp only[List.getElem?_toArray,List.getElem?_cons_zero,List.getElem?_cons_succ] at y0 y1 y2 y3
       go_wp2_with fail
       by_cases hcq:cap' = 1
       ·rw[if_pos hcq]
        exact⟨⟨c i,p', d+1,op', cap' - 1,_,g', _,by simp,.inr ⟨_,bn,rfl⟩,HLe.out,fun _=>hglp2,by have h:=HNx.out w3 (.cells #[.slice (some ⟨gp,op', none⟩) 1 cap', .string e0,.iface tt (.pointer (some ⟨ub,0,none⟩)),.string g'] 191) op' (cap' - 1) HB3.out (.inl (List.length_eq_zero_iff.1 (by omega))) (by omega);rw[Int.natCast_add] at h;exact h⟩,by simp[lenV]⟩
       ·rw[if_neg hcq]
        exact⟨⟨c i,p', d+1,op' + 1,cap' - 1,_,g', _,by simp,.inr ⟨_,bn,rfl⟩,HLe.out,fun _=>hglp2,by have h:=HNx.out w3 (.cells #[.slice (some ⟨gp,op', none⟩) 1 cap', .string e0,.iface tt (.pointer (some ⟨ub,0,none⟩)),.string g'] 191) (op' + 1) (cap' - 1) HB3.out (.inr rfl) (by omega);rw[Int.natCast_add] at h;exact h⟩,by simp[lenV]⟩
theorem get_nil (fv pv:Value)(w:World) :
  Calls Tryz.prog 77 #[fv,.agg #[.nilIface,.string ⟨#[]⟩],pv] w fun e w' => e=.returned (.tuple #[.string ⟨#[]⟩,.int .i64 10])∧Below w.heap.size w w' := by
 have HE:Hid (∀o,(w.alloc o).heap[w.heap.size]? = some (.cells #[.nilIface,.string e0] 65 (0,0))→Calls Tryz.prog 80 #[.pointer (some ⟨w.heap.size,0,none⟩)] (w.alloc o) fun e w' => e=.returned (.bool true)∧w' = w.alloc o):=fun o hW=>isEmpty_yes w.heap.size 0 (w.alloc o) (cell_of_row _ _ 0 _ _ (0,0) hW) (cell_of_row _ _ 1 _ _ (0,0) hW)
 go_enter Tryz.func77,Tryz.ntmps77
 go_wp2_with fail
 refine (HE.out _ (heap_alloc_new w _)).mono ?_
 rintro e w1 ⟨rfl,rfl⟩
 go_wp2
 go_ret2
 exact⟨rfl,below_alloc _ _⟩
theorem get_any (Hk:Nd→ByteArray→Prop)(ok:Nat→Prop)(st:Value)(n0:Nd)(v0:Value)(g0:ByteArray)(gp op cap:Nat)(P:List Nat)(w:World)(hok:∀k,ok k→k<w.heap.size)(hn:NdAt Hk ok w n0 v0)(hg:n0=.nil→g0=e0)(hw:n0.WF)(hP:Nums w (some ⟨gp,op,none⟩) P)(hc:P.length≤cap)(hPl:P.length≤400)(h16:∀i∈P,i<16)(hlen:n0.Len 400) :
  Calls Tryz.prog 77 #[.func (.func 78) #[st] #[],.agg #[v0,.string g0],.slice (some ⟨gp,op,none⟩) P.length cap] w fun e w' => e=gotE (n0.look P)∧Below w.heap.size w w' := by
 by_cases h:n0=.nil
 ·obtain rfl:=hg h
  subst h
  obtain rfl:v0=.nilIface:=hn
  refine (get_nil _ _ w).mono ?_
  rintro e w' ⟨rfl,hb⟩
  exact⟨(gotE_no (by simp[Nd.look])).symm,hb⟩
 ·exact get_some Hk ok st n0 v0 g0 gp op cap P w hok hn h hw hP hc hPl h16 hlen
def pathN (k:ByteArray):List Nat:=(nibs k.data.toList).map Int.toNat
theorem nibs_rng:∀(l:List UInt8),∀x∈nibs l,0≤x∧x<16
 | [],x,h=>by cases h
 | b :: r,x,h=>by
   have hb:=b.toNat_lt
   simp only[nibs,List.mem_cons] at h
   rcases h with rfl|rfl|h
   ·omega
   ·omega
   ·exact nibs_rng r x h
theorem pathN_length (k:ByteArray):(pathN k).length=2 * k.size:=by
 unfold pathN
 rw[List.length_map,nibs_length,Array.length_toList];rfl
theorem pathN_lt (k:ByteArray):∀i∈pathN k,i<16:=fun i hi=>by
 obtain⟨x,hx,rfl⟩:=List.mem_map.1 hi
 have:=nibs_rng _ x hx
 omega
theorem nibs_num (l:List UInt8):(nibs l).map (Value.int .i64)=((nibs l).map Int.toNat).map numV:=by
 rw[List.map_map]
 apply List.map_congr_left
 intro x hx
 have:=nibs_rng l x hx
 show Value.int .i64 x=Value.int .i64 ((x.toNat:Nat):Int)
 rw[Int.toNat_of_nonneg this.1]
theorem of_nums (s:ByteArray)(w:World)(h:s.size≤1000) :
  Calls Tryz.prog 44 #[.string s] w fun e w' => ∃g,e=.returned (.slice (some ⟨g,0,none⟩) (pathN s).length (2 * s.size))∧Nums w' (some ⟨g,0,none⟩) (pathN s)∧w.heap.size≤g∧Below w.heap.size w w' := by
 refine (of_any s w h).mono ?_
 rintro e w' ⟨g,rfl,ho,hb⟩
 rw[nibs_num] at ho
 refine⟨g,by rw[pathN_length],Nums.own ho,?_,hb⟩
 exact own_ge ho (Nat.le_refl _) g rfl
theorem Len_mono:∀(n:Nd) {L M:Nat},n.Len L→L≤M→n.Len M
 | .nil,_,_,_,_=>trivial
 | .leaf q _,_,_,h,hm=>Nat.le_trans h hm
 | .ext q m,_,_,h,hm=>⟨Nat.le_trans h.1 hm,Len_mono m h.2 (by omega)⟩
 | .br c _,_,_,h,hm=>⟨Nat.le_trans h.1 hm,fun i=>Len_mono (c i) (h.2 i) (by omega)⟩
def Nd.drop (n:Nd)(p:List Nat):Nd:=if (n.look p).size=0 then n else n.remove p
def Nd.set (n:Nd)(p:List Nat)(v:ByteArray):Nd:=if v.size=0 then n.drop p else n.put p v
structure TOk (n:Nd):Prop where
 wf:n.WF
 len:n.Len 128
 vb:∀p,(n.look p).size≤400
theorem TOk.nil:TOk .nil:=⟨trivial,trivial,fun _=>Nat.zero_le _⟩
theorem look_drop {n:Nd}(h:n.WF){p:List Nat}(hp:∀x∈p,x<16)(r:List Nat):(n.drop p).look r=if p=r then e0 else n.look r:=by
 unfold Nd.drop
 split
 ·rename_i h0
  split
  ·rename_i e;subst e;exact e0_of h0
  ·rfl
 ·rename_i h0
  exact look_remove n p r h hp h0
theorem look_set {n:Nd}(h:n.WF){p:List Nat}(hp:∀x∈p,x<16)(v:ByteArray)(r:List Nat):(n.set p v).look r=if p=r then v else n.look r:=by
 unfold Nd.set
 split
 ·rename_i hv
  rw[look_drop h hp,e0_of hv]
 ·exact look_put n p v r
theorem TOk.set {n:Nd}(h:TOk n){p:List Nat}(hp:∀x∈p,x<16)(hl:p.length≤128){v:ByteArray}(hv:v.size≤400):TOk (n.set p v):=by
 refine⟨?_,?_,fun r=>?_⟩
 ·unfold Nd.set Nd.drop
  split
  ·split
   ·exact h.wf
   ·exact remove_WF n p h.wf hp
  ·rename_i h0;exact put_WF n p v h.wf hp h0
 ·unfold Nd.set Nd.drop
  split
  ·split
   ·exact h.len
   ·exact remove_Len n p 128 h.wf hp h.len
  ·exact put_Len n p v 128 h.len hl
 ·rw[look_set h.wf hp]
  split
  ·exact hv
  ·exact h.vb r
structure RBox (w W:World)(u:Value):Prop where
 bel:Below w.heap.size w W
 one:W.heap[w.heap.size]? = some (.cells #[u,.string e0] 65 (0,0))
 two:W.heap[w.heap.size+1]? = some (.cells #[.nilIface,.string e0] 65 (0,0))
theorem RBox.start (w:World)(u:Value):RBox w ((w.alloc (.cells #[u,.string e0] 65)).alloc (.cells #[.nilIface,.string e0] 65)) u:=⟨below_alloc2 _ _ _,by rw[Below.heap_alloc _ _ _ (by simp)];exact heap_alloc_new w _,by
 have:=heap_alloc_new (w.alloc (.cells #[u,.string e0] 65)) (.cells #[.nilIface,.string e0] 65)
 rwa [World.size_alloc] at this⟩
theorem RBox.keep {w W W' : World}{u:Value}(h:RBox w W u)(hb:Below W.heap.size W W'):RBox w W' u:=⟨h.bel.trans (hb.mono h.bel.size),(hb.block _ (aGe.1 h.one).1).trans h.one,(hb.block _ (aGe.1 h.two).1).trans h.two⟩
theorem RBox.cells {w W:World}{u:Value}(h:RBox w W u):W.cell? ⟨w.heap.size,0,none⟩=some u∧W.cell? ⟨w.heap.size,1,none⟩=some (.string e0)∧W.cell? ⟨w.heap.size+1,0,none⟩=some .nilIface∧W.cell? ⟨w.heap.size+1,1,none⟩=some (.string e0)∧W.frozen? ⟨w.heap.size+1,0,none⟩=false∧W.frozen? ⟨w.heap.size+1,1,none⟩=false :=
 ⟨cell_of_row _ _ 0 _ _ (0,0) h.one,cell_of_row _ _ 1 _ _ (0,0) h.one,cell_of_row _ _ 0 _ _ (0,0) h.two,cell_of_row _ _ 1 _ _ (0,0) h.two,frozen_of_row _ _ 0 _ _ h.two,frozen_of_row _ _ 1 _ _ h.two⟩
theorem RBox.fin {w W:World}{u v' : Value}{Hk:Nd→ByteArray→Prop}{ok:Nat→Prop}{n:Nd}(h:RBox w W u)(hok:∀k,ok k→k<w.heap.size)(hn:NdAt Hk (fun k=>ok k∨w.heap.size+2≤k) W n v') :
  RefPost Hk ok n w (.returned (.tuple #[.agg #[v', .string e0],.int .i64 0])) ((W.setCell ⟨w.heap.size+1,0,none⟩ v').setCell ⟨w.heap.size+1,1,none⟩ (.string e0))∧((W.setCell ⟨w.heap.size+1,0,none⟩ v').setCell ⟨w.heap.size+1,1,none⟩ (.string e0)).heap[w.heap.size+1]? = some (.cells #[v', .string e0] 65 (0,0)):=by
 refine⟨⟨v', rfl,?_,below_two h.bel (by omega) _ _⟩,two_set h.two v' (.string e0)⟩
 refine NdAt.mono (fun k hk=>?_) _ _ (NdAt.keepIn (fun k hk _=>two_other (show k≠w.heap.size+1 from ?_) _ _) _ _ hn)
 ·rcases hk with hk|hk
  ·exact .inl hk
  ·exact .inr (by omega)
 ·rcases hk with hk|hk
  ·have:=hok k hk;omega
  ·omega
theorem drop_any (Hk:Nd→ByteArray→Prop)(ok:Nat→Prop)(st:Value)(n:Nd)(u:Value)(gp op cap:Nat)(p:List Nat)(w:World)(hok:∀k,ok k→k<w.heap.size)(hn:NdAt Hk ok w n u)(hT:TOk n)(hP:Nums w (some ⟨gp,op,none⟩) p)(hc:p.length≤cap)(hpl:p.length≤128)(h16:∀i∈p,i<16) :
  Calls Tryz.prog 43 #[st,.agg #[u,.string e0],.slice (some ⟨gp,op,none⟩) p.length cap] w fun e w' => RefPost Hk ok (n.drop p) w e w' := by
 have HG:Hid (∀W,Below w.heap.size w W→Calls Tryz.prog 77 #[.func (.func 78) #[st] #[],.agg #[u,.string e0],.slice (some ⟨gp,op,none⟩) p.length cap] W fun e w' => e=gotE (n.look p)∧Below W.heap.size W w'):=fun W hW =>
  get_any Hk ok st n u e0 gp op cap p W (fun k hk=>Nat.lt_of_lt_of_le (hok k hk) hW.size) (hn.keep hW) (fun _=>rfl) hT.wf (hP.keep hW (Nat.le_refl _)) hc (by omega) h16 (Len_mono n hT.len (by omega))
 have HRm:Hid ((n.look p).size≠0→∀W,Below w.heap.size w W→Calls Tryz.prog 79 #[st,.agg #[u,.string e0,.nilIface,.int .i64 0],.slice (some ⟨gp,op,none⟩) p.length cap] W fun e w' => PutPost Hk ok (n.remove p) W e w'):=fun hl W hW =>
  sRem_all Hk n 128 hT.wf hT.len (by omega) ok u e0 st .nilIface 0 gp op cap p W (fun k hk=>Nat.lt_of_lt_of_le (hok k hk) hW.size) (hn.keep hW) (hP.keep hW (Nat.le_refl _)) hc hpl (by omega) h16 hl
 have HN:=hide hn
 have HOK:=hide hok
 have hnd:=hn.isNd
 have HNn:Hid ((n.look p).size≠0→n≠.nil):=fun h e=>h (by rw[e];rfl)
 have HB0:=hide (RBox.start w u)
 clear hn hok hT hP h16
 by_cases hl:(n.look p).size=0
 ·have HD:Hid (n.drop p=n):=by show _=_;unfold Nd.drop;rw[if_pos hl]
  have HE:Hid (gotE (n.look p)=.returned (.tuple #[.string e0,.int .i64 10])):=gotE_no (e0_of hl)
  rw[HE.out] at HG
  clear HRm hl HNn
  rcases hnd with rfl|⟨t,b,rfl⟩
  ·go_enter Tryz.func43,Tryz.ntmps43
   go_wp2_with fail
   refine (HG.out _ HB0.out.bel).mono ?_
   rintro e w1 ⟨rfl,hb1⟩
   have HB1:=hide (HB0.out.keep hb1)
   clear hb1
   obtain⟨c0,c1,c2,c3,f2,f3⟩:=HB1.out.cells
   go_wp2
   have hfin:=HB1.out.fin HOK.out (NdAt.mono (fun k hk=>.inl hk) _ _ (HN.out.keep HB1.out.bel))
   have r0:=cell_of_row _ _ 0 _ _ (0,0) hfin.2
   have r1:=cell_of_row _ _ 1 _ _ (0,0) hfin.2
   refine bodyPost_ret (v:=.tuple #[.agg #[.nilIface,.string e0],.int .i64 0]) (by simp[results,Tryz.results43,go_sem,r0,r1]) rfl ?_
   rw[HD.out]
   exact hfin.1
  ·unfold ptr at *
   go_enter Tryz.func43,Tryz.ntmps43
   go_wp2_with fail
   refine (HG.out _ HB0.out.bel).mono ?_
   rintro e w1 ⟨rfl,hb1⟩
   have HB1:=hide (HB0.out.keep hb1)
   clear hb1
   obtain⟨c0,c1,c2,c3,f2,f3⟩:=HB1.out.cells
   go_wp2
   have hfin:=HB1.out.fin HOK.out (NdAt.mono (fun k hk=>.inl hk) _ _ (HN.out.keep HB1.out.bel))
   have r0:=cell_of_row _ _ 0 _ _ (0,0) hfin.2
   have r1:=cell_of_row _ _ 1 _ _ (0,0) hfin.2
   refine bodyPost_ret (v:=.tuple #[.agg #[.iface t (.pointer (some ⟨b,0,none⟩)),.string e0],.int .i64 0]) (by simp[results,Tryz.results43,go_sem,r0,r1]) rfl ?_
   rw[HD.out]
   exact hfin.1
 ·have HD:Hid (n.drop p=n.remove p):=by show _=_;unfold Nd.drop;rw[if_neg hl]
  have HE:Hid (gotE (n.look p)=.returned (.tuple #[.string (n.look p),.int .i64 0])):=gotE_yes rfl hl
  rw[HE.out] at HG
  have HR2:=hide (HRm.out hl)
  obtain⟨t,b,rfl⟩:=HN.out.some (HNn.out hl)
  generalize n.look p=A at *
  clear HRm hl HNn HE hnd
  unfold ptr at *
  go_enter Tryz.func43,Tryz.ntmps43
  go_wp2_with fail
  refine (HG.out _ HB0.out.bel).mono ?_
  rintro e w1 ⟨rfl,hb1⟩
  have HB1:=hide (HB0.out.keep hb1)
  clear hb1
  obtain⟨c0,c1,c2,c3,f2,f3⟩:=HB1.out.cells
  have HR3:=hide (HR2.out w1 HB1.out.bel)
  have hz1:w.heap.size+2≤w1.heap.size:=by have:=(aGe.1 HB1.out.two).1;omega
  have HZ:=hide hz1
  clear hz1
  go_wp2_with fail
  refine HR3.out.mono ?_
  rintro e w2 ⟨v2,rfl,hn2,hb2⟩
  have HB2:=hide (HB1.out.keep hb2)
  have HN2:Hid (NdAt Hk (fun k=>ok k∨w.heap.size+2≤k) w2 (n.remove p) v2):=NdAt.mono (fun k hk=>hk.imp id (fun h=>Nat.le_trans HZ.out h)) _ _ hn2
  have hnd2:=hn2.isNd
  clear hb2 hn2 c0 c1 c2 c3 f2 f3
  obtain⟨c0,c1,c2,c3,f2,f3⟩:=HB2.out.cells
  rcases hnd2 with rfl|⟨t2,b2,rfl⟩
  ·go_wp2
   have hfin:=HB2.out.fin HOK.out HN2.out
   have r0:=cell_of_row _ _ 0 _ _ (0,0) hfin.2
   have r1:=cell_of_row _ _ 1 _ _ (0,0) hfin.2
   refine bodyPost_ret (v:=.tuple #[.agg #[.nilIface,.string e0],.int .i64 0]) (by simp[results,Tryz.results43,go_sem,r0,r1]) rfl ?_
   rw[HD.out]
   exact hfin.1
  ·unfold ptr at *
   go_wp2
   have hfin:=HB2.out.fin HOK.out HN2.out
   have r0:=cell_of_row _ _ 0 _ _ (0,0) hfin.2
   have r1:=cell_of_row _ _ 1 _ _ (0,0) hfin.2
   refine bodyPost_ret (v:=.tuple #[.agg #[.iface t2 (.pointer (some ⟨b2,0,none⟩)),.string e0],.int .i64 0]) (by simp[results,Tryz.results43,go_sem,r0,r1]) rfl ?_
   rw[HD.out]
   exact hfin.1
structure SBox (w W:World)(T bx:Nat)(st u:Value)(k v:ByteArray):Prop where
 lb:bx<w.heap.size
 lT:T<w.heap.size
 bel:Below w.heap.size w W
 size:w.heap.size+3≤W.heap.size
 tree:W.heap[bx]? = some (.cells #[ptr T] 104 (0,0))
 store:W.cell? ⟨T,0,none⟩=some st
 top:W.heap[w.heap.size]? = some (.cells #[u,.string e0] 65 (0,0))
 pair:W.heap[w.heap.size+1]? = some (.cells #[.string k,.string v] 33 (0,0))
 res:W.heap[w.heap.size+2]? = some (.cells #[.nilIface,.string e0] 65 (0,0))
theorem SBox.start {w:World}{T bx:Nat}{st:Value}(u:Value)(k v:ByteArray)(hbx:w.heap[bx]? = some (.cells #[ptr T] 104 (0,0)))(hT:w.cell? ⟨T,0,none⟩=some st) :
  SBox w (((w.alloc (.cells #[u,.string e0] 65)).alloc (.cells #[.string k,.string v] 33)).alloc (.cells #[.nilIface,.string e0] 65)) T bx st u k v:=by
 have hb:Below w.heap.size w (((w.alloc (.cells #[u,.string e0] 65)).alloc (.cells #[.string k,.string v] 33)).alloc (.cells #[.nilIface,.string e0] 65)):=(below_alloc2 _ _ _).alloc (by simp;omega) _
 refine⟨(aGe.1 hbx).1,World.block_lt_of_cell? w _ hT,hb,by simp,(hb.block bx (aGe.1 hbx).1).trans hbx,(hb.cell (p:=⟨T,0,none⟩) (World.block_lt_of_cell? w _ hT)).trans hT,?_,?_,?_⟩
 ·rw[Below.heap_alloc _ _ _ (by simp;omega),Below.heap_alloc _ _ _ (by simp)];exact heap_alloc_new w _
 ·rw[Below.heap_alloc _ _ _ (by simp)]
  have:=heap_alloc_new (w.alloc (.cells #[u,.string e0] 65)) (.cells #[.string k,.string v] 33)
  rwa [World.size_alloc] at this
 ·have:=heap_alloc_new ((w.alloc (.cells #[u,.string e0] 65)).alloc (.cells #[.string k,.string v] 33)) (.cells #[.nilIface,.string e0] 65)
  rwa [World.size_alloc,World.size_alloc] at this
theorem SBox.keep {w W W' : World}{T bx:Nat}{st u:Value}{k v:ByteArray}(h:SBox w W T bx st u k v)(hb:Below W.heap.size W W'):SBox w W' T bx st u k v :=
 ⟨h.lb,h.lT,h.bel.trans (hb.mono h.bel.size),Nat.le_trans h.size hb.size,(hb.block _ (aGe.1 h.tree).1).trans h.tree,(hb.cell (p:=⟨T,0,none⟩) (World.block_lt_of_cell? W _ h.store)).trans h.store,(hb.block _ (aGe.1 h.top).1).trans h.top,(hb.block _ (aGe.1 h.pair).1).trans h.pair,(hb.block _ (aGe.1 h.res).1).trans h.res⟩
theorem SBox.cells {w W:World}{T bx:Nat}{st u:Value}{k v:ByteArray}(h:SBox w W T bx st u k v):W.cell? ⟨bx,0,none⟩=some (ptr T)∧W.cell? ⟨T,0,none⟩=some st∧W.cell? ⟨w.heap.size,0,none⟩=some u∧W.cell? ⟨w.heap.size,1,none⟩=some (.string e0)∧W.cell? ⟨w.heap.size+1,0,none⟩=some (.string k)∧W.cell? ⟨w.heap.size+1,1,none⟩=some (.string v) :=
 ⟨cell_of_row _ _ 0 _ _ (0,0) h.tree,h.store,cell_of_row _ _ 0 _ _ (0,0) h.top,cell_of_row _ _ 1 _ _ (0,0) h.top,cell_of_row _ _ 0 _ _ (0,0) h.pair,cell_of_row _ _ 1 _ _ (0,0) h.pair⟩
theorem SBox.out {w W:World}{T bx:Nat}{st u:Value}{k v:ByteArray}(h:SBox w W T bx st u k v):W.cell? ⟨w.heap.size+2,0,none⟩=some .nilIface∧W.cell? ⟨w.heap.size+2,1,none⟩=some (.string e0)∧W.frozen? ⟨w.heap.size+2,0,none⟩=false∧W.frozen? ⟨w.heap.size+2,1,none⟩=false :=
 ⟨cell_of_row _ _ 0 _ _ (0,0) h.res,cell_of_row _ _ 1 _ _ (0,0) h.res,frozen_of_row _ _ 0 _ _ h.res,frozen_of_row _ _ 1 _ _ h.res⟩
theorem SBox.fin {w W:World}{T bx:Nat}{st u v' : Value}{k v:ByteArray}{Hk:Nd→ByteArray→Prop}{ok:Nat→Prop}{n:Nd}(h:SBox w W T bx st u k v)(hok:∀k,ok k→k<w.heap.size)(hn:NdAt Hk (fun k=>ok k∨w.heap.size+3≤k) W n v') :
  RefPost Hk ok n w (.returned (.tuple #[.agg #[v', .string e0],.int .i64 0])) ((W.setCell ⟨w.heap.size+2,0,none⟩ v').setCell ⟨w.heap.size+2,1,none⟩ (.string e0))∧((W.setCell ⟨w.heap.size+2,0,none⟩ v').setCell ⟨w.heap.size+2,1,none⟩ (.string e0)).heap[w.heap.size+2]? = some (.cells #[v', .string e0] 65 (0,0)):=by
 refine⟨⟨v', rfl,?_,below_two h.bel (by omega) _ _⟩,two_set h.res v' (.string e0)⟩
 refine NdAt.mono (fun k hk=>?_) _ _ (NdAt.keepIn (fun k hk _=>two_other (show k≠w.heap.size+2 from ?_) _ _) _ _ hn)
 ·rcases hk with hk|hk
  ·exact .inl hk
  ·exact .inr (by omega)
 ·rcases hk with hk|hk
  ·have:=hok k hk;omega
  ·omega
theorem putStep_val (Hk:Nd→ByteArray→Prop)(hnn:∀n g,Hk n g→n≠.nil)(ok:Nat→Prop)(T bx:Nat)(st:Value)(n:Nd)(u:Value)(k v:ByteArray)(w:World)(hok:∀k,ok k→k<w.heap.size)(hn:NdAt Hk ok w n u)(hO:TOk n)(hk:k.size≤64)(hv:v.size≤400)(hv0:v.size≠0)
  (hbx:w.heap[bx]? = some (.cells #[ptr T] 104 (0,0))) (hT:w.cell? ⟨T,0,none⟩=some st) :
  Calls Tryz.prog 42 #[.agg #[u,.string e0],.agg #[.string k,.string v],ptr bx] w fun e w' => RefPost Hk ok (n.set (pathN k) v) w e w' := by
 have HS0:=hide (SBox.start u k v hbx hT)
 have HD:Hid (n.set (pathN k) v=n.put (pathN k) v):=by show _=_;unfold Nd.set;rw[if_neg hv0]
 have hve:=isEmptyV hv0
 have hnd:=hn.isNd
 obtain⟨W0,hW0⟩:∃W0,(((w.alloc (.cells #[u,.string e0] 65)).alloc (.cells #[.string k,.string v] 33)).alloc (.cells #[.nilIface,.string e0] 65))=W0:=⟨_,rfl⟩
 have HOf:Hid (∀W,Below W0.heap.size W0 W→Calls Tryz.prog 44 #[.string k] W fun e w' => ∃g,e=.returned (.slice (some ⟨g,0,none⟩) (pathN k).length (2 * k.size))∧Nums w' (some ⟨g,0,none⟩) (pathN k)∧Below W0.heap.size W0 w'):=fun W hW=>by
  refine (of_nums k W (by omega)).mono ?_
  rintro e w' ⟨g,rfl,h1,_,h2⟩
  exact⟨g,rfl,h1,hW.trans (h2.mono hW.size)⟩
 have HCl:Hid (∀W,Below W0.heap.size W0 W→Calls Tryz.prog 46 #[.string v] W fun e w' => e=.returned (.string v)∧Below W0.heap.size W0 w' ∧ Below W.heap.size W w'):=fun W hW=>by
  refine (clone_any v W (by omega)).mono ?_
  rintro e w' ⟨rfl,h2⟩
  exact⟨rfl,hW.trans (h2.mono hW.size),h2⟩
 rw[hW0] at HS0
 have HPu:Hid (∀W g,Below W0.heap.size W0 W→Nums W (some ⟨g,0,none⟩) (pathN k)→Calls Tryz.prog 45 #[st,.agg #[u,.string e0,.nilIface,.int .i64 0],.slice (some ⟨g,0,none⟩) (pathN k).length (2 * k.size),.string v] W fun e w' => ∃t4 b4,e=.returned (.tuple #[.agg #[.iface t4 (ptr b4),.string e0],.int .i64 0])∧NdAt Hk (fun k=>ok k∨w.heap.size+3≤k) w' (n.put (pathN k) v) (.iface t4 (ptr b4))∧SBox w w' T bx st u k v):=fun W g hW hnu=>by
  have hbw:=HS0.out.bel.trans (hW.mono HS0.out.bel.size)
  refine (sPut_all Hk hnn n 128 hO.wf hO.len (by omega) ok u e0 st .nilIface 0 g 0 (2 * k.size) (pathN k) v W (fun k hk=>Nat.lt_of_lt_of_le (hok k hk) hbw.size) (hn.keep hbw) (.inl rfl) hnu (by rw[pathN_length];exact Nat.le_refl _) (by rw[pathN_length];omega) (by omega) (pathN_lt k)).mono ?_
  rintro e w' ⟨v', rfl,h1,h2⟩
  obtain⟨t4,b4,rfl⟩:=h1.some (put_ne n _ v)
  exact⟨t4,b4,rfl,NdAt.mono (fun k hk=>hk.imp id (fun h=>Nat.le_trans HS0.out.size (Nat.le_trans hW.size h))) _ _ h1,(HS0.out.keep hW).keep h2⟩
 have HKp:Hid (∀W,Below W0.heap.size W0 W→SBox w W T bx st u k v):=fun W hW=>HS0.out.keep hW
 have HOK:=hide hok
 have l1:=(aGe.1 hbx).1
 have l2:T<w.heap.size:=World.block_lt_of_cell? w _ hT
 have q1:¬bx=w.heap.size+1+1:=by omega
 have q2:¬w.heap.size+1+1=bx:=by omega
 have q3:¬T=w.heap.size+1+1:=by omega
 have q4:¬w.heap.size+1+1=T:=by omega
 have q5:¬w.heap.size=w.heap.size+1+1:=by omega
 have q6:¬w.heap.size+1+1=w.heap.size:=by omega
 clear hn hok hO hbx hT hv0 l1 l2
 obtain⟨c0,c1,c2,c3,c4,c5⟩:=HS0.out.cells
 rcases hnd with rfl|⟨t,b,rfl⟩
 ·unfold ptr at *
  go_enter Tryz.func42,Tryz.ntmps42
  go_wp2_with fail
  first|rw[hW0] | skip
  clear hW0
  go_region_held3 (fun W=>W.cell? ⟨bx,0,none⟩=some (.pointer (some ⟨T,0,none⟩))∧W.cell? ⟨T,0,none⟩=some st∧W.cell? ⟨w.heap.size,0,none⟩=some .nilIface∧W.cell? ⟨w.heap.size,1,none⟩=some (.string e0)∧W.cell? ⟨w.heap.size+1,0,none⟩=some (.string k)∧W.cell? ⟨w.heap.size+1,1,none⟩=some (.string v)) (first|go_keep|(simp[*])) ((first
   | (go_at_call 44;refine (HOf.out _ (by first|exact (Below.refl _ _).drew|exact HB3.out)).mono ?_;rintro e w2 ⟨g,rfl,hnu,hb2⟩;(have HN2:=hide hnu);(have HB2:=hide hb2);(obtain⟨d0,d1,d2,d3,d4,d5⟩:=(HKp.out w2 hb2).cells);unfold ptr at d0;clear hnu hb2)
   | (go_at_call 46;refine (HCl.out _ (by first|exact (Below.refl _ _).drew|exact HB2.out)).mono ?_;rintro e w3 ⟨rfl,hb3,hk3⟩;(have HB3:=hide hb3);(first|(have HN3:=hide (HN2.out.keep hk3 (Nat.le_refl _)))|skip);(obtain⟨i0,i1,i2,i3,i4,i5⟩:=(HKp.out w3 hb3).cells);unfold ptr at i0;clear hb3 hk3)
   | (go_at_call 45;refine (HPu.out _ g (by first|exact HB3.out|exact HB2.out) (by first|exact HN3.out|exact HN2.out)).mono ?_;rintro e w4 ⟨t4,b4,rfl,hn4,hs4⟩;(have HX4:=hide (And.intro hn4 hs4));(obtain⟨j0,j1,j2,j3,j4,j5⟩:=hs4.cells);(obtain⟨z0,z1,z2,z3⟩:=hs4.out);unfold ptr at j0;clear hn4 hs4)))
  all_goals
   have hfin:=HX4.out.2.fin HOK.out HX4.out.1
   have r0:=cell_of_row _ _ 0 _ _ (0,0) hfin.2
   have r1:=cell_of_row _ _ 1 _ _ (0,0) hfin.2
   have HFin:=hide hfin.1
   clear hfin
   go_wp2
   refine bodyPost_ret (v:=.tuple #[.agg #[.iface t4 (.pointer (some ⟨b4,0,none⟩)),.string e0],.int .i64 0]) (by first|(simp[results,Tryz.results42,go_sem,r0,r1];done)|(simp[results,Tryz.results42,go_sem];done)) rfl ?_
   rw[HD.out]
   first|exact HFin.out|exact HFin.out.drew
 ·unfold ptr at *
  go_enter Tryz.func42,Tryz.ntmps42
  go_wp2_with fail
  first|rw[hW0] | skip
  clear hW0
  go_region_held3 (fun W=>W.cell? ⟨bx,0,none⟩=some (.pointer (some ⟨T,0,none⟩))∧W.cell? ⟨T,0,none⟩=some st∧W.cell? ⟨w.heap.size,0,none⟩=some (.iface t (.pointer (some ⟨b,0,none⟩)))∧W.cell? ⟨w.heap.size,1,none⟩=some (.string e0)∧W.cell? ⟨w.heap.size+1,0,none⟩=some (.string k)∧W.cell? ⟨w.heap.size+1,1,none⟩=some (.string v)) (first|go_keep|(simp[*])) ((first
   | (go_at_call 44;refine (HOf.out _ (by first|exact (Below.refl _ _).drew|exact HB3.out)).mono ?_;rintro e w2 ⟨g,rfl,hnu,hb2⟩;(have HN2:=hide hnu);(have HB2:=hide hb2);(obtain⟨d0,d1,d2,d3,d4,d5⟩:=(HKp.out w2 hb2).cells);unfold ptr at d0;clear hnu hb2)
   | (go_at_call 46;refine (HCl.out _ (by first|exact (Below.refl _ _).drew|exact HB2.out)).mono ?_;rintro e w3 ⟨rfl,hb3,hk3⟩;(have HB3:=hide hb3);(first|(have HN3:=hide (HN2.out.keep hk3 (Nat.le_refl _)))|skip);(obtain⟨i0,i1,i2,i3,i4,i5⟩:=(HKp.out w3 hb3).cells);unfold ptr at i0;clear hb3 hk3)
   | (go_at_call 45;refine (HPu.out _ g (by first|exact HB3.out|exact HB2.out) (by first|exact HN3.out|exact HN2.out)).mono ?_;rintro e w4 ⟨t4,b4,rfl,hn4,hs4⟩;(have HX4:=hide (And.intro hn4 hs4));(obtain⟨j0,j1,j2,j3,j4,j5⟩:=hs4.cells);(obtain⟨z0,z1,z2,z3⟩:=hs4.out);unfold ptr at j0;clear hn4 hs4)))
  all_goals
   have hfin:=HX4.out.2.fin HOK.out HX4.out.1
   have r0:=cell_of_row _ _ 0 _ _ (0,0) hfin.2
   have r1:=cell_of_row _ _ 1 _ _ (0,0) hfin.2
   have HFin:=hide hfin.1
   clear hfin
   go_wp2
   refine bodyPost_ret (v:=.tuple #[.agg #[.iface t4 (.pointer (some ⟨b4,0,none⟩)),.string e0],.int .i64 0]) (by first|(simp[results,Tryz.results42,go_sem,r0,r1];done)|(simp[results,Tryz.results42,go_sem];done)) rfl ?_
   rw[HD.out]
   first|exact HFin.out|exact HFin.out.drew
theorem putStep_del (Hk:Nd→ByteArray→Prop)(ok:Nat→Prop)(T bx:Nat)(st:Value)(n:Nd)(u:Value)(k:ByteArray)(w:World)(hok:∀k,ok k→k<w.heap.size)(hn:NdAt Hk ok w n u)(hO:TOk n)(hk:k.size≤64)
  (hbx:w.heap[bx]? = some (.cells #[ptr T] 104 (0,0))) (hT:w.cell? ⟨T,0,none⟩=some st) :
  Calls Tryz.prog 42 #[.agg #[u,.string e0],.agg #[.string k,.string e0],ptr bx] w fun e w' => RefPost Hk ok (n.set (pathN k) e0) w e w' := by
 have HS0:=hide (SBox.start u k e0 hbx hT)
 have HD:Hid (n.set (pathN k) e0=n.drop (pathN k)):=by show _=_;unfold Nd.set;rw[if_pos (show e0.size=0 from rfl)]
 have hnd:=hn.isNd
 obtain⟨W0,hW0⟩:∃W0,(((w.alloc (.cells #[u,.string e0] 65)).alloc (.cells #[.string k,.string e0] 33)).alloc (.cells #[.nilIface,.string e0] 65))=W0:=⟨_,rfl⟩
 have HOf:Hid (∀W,Below W0.heap.size W0 W→Calls Tryz.prog 44 #[.string k] W fun e w' => ∃g,e=.returned (.slice (some ⟨g,0,none⟩) (pathN k).length (2 * k.size))∧Nums w' (some ⟨g,0,none⟩) (pathN k)∧Below W0.heap.size W0 w'):=fun W hW=>by
  refine (of_nums k W (by omega)).mono ?_
  rintro e w' ⟨g,rfl,h1,_,h2⟩
  exact⟨g,rfl,h1,hW.trans (h2.mono hW.size)⟩
 rw[hW0] at HS0
 have HDr0:Hid (∀W g,Below W0.heap.size W0 W→Nums W (some ⟨g,0,none⟩) (pathN k)→Calls Tryz.prog 43 #[st,.agg #[u,.string e0],.slice (some ⟨g,0,none⟩) (pathN k).length (2 * k.size)] W fun e w' => ∃v', e=.returned (.tuple #[.agg #[v', .string e0],.int .i64 0])∧NdAt Hk (fun k=>ok k∨w.heap.size+3≤k) w' (n.drop (pathN k)) v' ∧ SBox w w' T bx st u k e0):=fun W g hW hnu=>by
  have hbw:=HS0.out.bel.trans (hW.mono HS0.out.bel.size)
  refine (drop_any Hk ok st n u g 0 (2 * k.size) (pathN k) W (fun k hk=>Nat.lt_of_lt_of_le (hok k hk) hbw.size) (hn.keep hbw) hO hnu (by rw[pathN_length];exact Nat.le_refl _) (by rw[pathN_length];omega) (pathN_lt k)).mono ?_
  rintro e w' ⟨v', rfl,h1,h2⟩
  exact⟨v', rfl,NdAt.mono (fun k hk=>hk.imp id (fun h=>Nat.le_trans HS0.out.size (Nat.le_trans hW.size h))) _ _ h1,(HS0.out.keep hW).keep h2⟩
 have HKp:Hid (∀W,Below W0.heap.size W0 W→SBox w W T bx st u k e0):=fun W hW=>HS0.out.keep hW
 have HOK:=hide hok
 have l1:=(aGe.1 hbx).1
 have l2:T<w.heap.size:=World.block_lt_of_cell? w _ hT
 have q1:¬bx=w.heap.size+1+1:=by omega
 have q2:¬w.heap.size+1+1=bx:=by omega
 have q3:¬T=w.heap.size+1+1:=by omega
 have q4:¬w.heap.size+1+1=T:=by omega
 have q5:¬w.heap.size=w.heap.size+1+1:=by omega
 have q6:¬w.heap.size+1+1=w.heap.size:=by omega
 clear hn hok hO hbx hT l1 l2
 obtain⟨c0,c1,c2,c3,c4,c5⟩:=HS0.out.cells
 by_cases hz:n.drop (pathN k)=.nil
 ·have HDr:Hid (∀W g,Below W0.heap.size W0 W→Nums W (some ⟨g,0,none⟩) (pathN k)→Calls Tryz.prog 43 #[st,.agg #[u,.string e0],.slice (some ⟨g,0,none⟩) (pathN k).length (2 * k.size)] W fun e w' => e=.returned (.tuple #[.agg #[.nilIface,.string e0],.int .i64 0])∧NdAt Hk (fun k=>ok k∨w.heap.size+3≤k) w' (n.drop (pathN k)) .nilIface∧SBox w w' T bx st u k e0):=fun W g hW hnu=>by
   refine (HDr0.out W g hW hnu).mono ?_
   rintro e w' ⟨v', rfl,h1,h2⟩
   have h3:=h1
   rw[hz] at h3
   obtain rfl:v' = .nilIface:=h3
   exact⟨rfl,h1,h2⟩
  clear HDr0 hz
  rcases hnd with rfl|⟨t,b,rfl⟩
  ·unfold ptr at *
   go_enter Tryz.func42,Tryz.ntmps42
   go_wp2_with fail
   first|rw[hW0] | skip
   clear hW0
   go_region_held3 (fun W=>W.cell? ⟨bx,0,none⟩=some (.pointer (some ⟨T,0,none⟩))∧W.cell? ⟨T,0,none⟩=some st∧W.cell? ⟨w.heap.size,0,none⟩=some .nilIface∧W.cell? ⟨w.heap.size,1,none⟩=some (.string e0)∧W.cell? ⟨w.heap.size+1,0,none⟩=some (.string k)∧W.cell? ⟨w.heap.size+1,1,none⟩=some (.string e0)) (first|go_keep|(simp[*])) ((first
    | (go_at_call 44;refine (HOf.out _ (by first|exact (Below.refl _ _).drew|exact Below.refl _ _)).mono ?_;rintro e w2 ⟨g,rfl,hnu,hb2⟩;(have HN2:=hide hnu);(have HB2:=hide hb2);(obtain⟨d0,d1,d2,d3,d4,d5⟩:=(HKp.out w2 hb2).cells);unfold ptr at d0;clear hnu hb2)
    | (go_at_call 43;refine (HDr.out _ g HB2.out HN2.out).mono ?_;rintro e w4 ⟨rfl,hn4,hs4⟩;(have HX4:=hide (And.intro hn4 hs4));(obtain⟨j0,j1,j2,j3,j4,j5⟩:=hs4.cells);(obtain⟨z0,z1,z2,z3⟩:=hs4.out);unfold ptr at j0;clear hn4 hs4)))
   all_goals
    have hfin:=HX4.out.2.fin HOK.out HX4.out.1
    have r0:=cell_of_row _ _ 0 _ _ (0,0) hfin.2
    have r1:=cell_of_row _ _ 1 _ _ (0,0) hfin.2
    have HFin:=hide hfin.1
    clear hfin
    go_wp2
    refine bodyPost_ret (v:=.tuple #[.agg #[.nilIface,.string e0],.int .i64 0]) (by first|(simp[results,Tryz.results42,go_sem,r0,r1];done)|(simp[results,Tryz.results42,go_sem];done)) rfl ?_
    rw[HD.out]
    first|exact HFin.out|exact HFin.out.drew
  ·unfold ptr at *
   go_enter Tryz.func42,Tryz.ntmps42
   go_wp2_with fail
   first|rw[hW0] | skip
   clear hW0
   go_region_held3 (fun W=>W.cell? ⟨bx,0,none⟩=some (.pointer (some ⟨T,0,none⟩))∧W.cell? ⟨T,0,none⟩=some st∧W.cell? ⟨w.heap.size,0,none⟩=some (.iface t (.pointer (some ⟨b,0,none⟩)))∧W.cell? ⟨w.heap.size,1,none⟩=some (.string e0)∧W.cell? ⟨w.heap.size+1,0,none⟩=some (.string k)∧W.cell? ⟨w.heap.size+1,1,none⟩=some (.string e0)) (first|go_keep|(simp[*])) ((first
    | (go_at_call 44;refine (HOf.out _ (by first|exact (Below.refl _ _).drew|exact Below.refl _ _)).mono ?_;rintro e w2 ⟨g,rfl,hnu,hb2⟩;(have HN2:=hide hnu);(have HB2:=hide hb2);(obtain⟨d0,d1,d2,d3,d4,d5⟩:=(HKp.out w2 hb2).cells);unfold ptr at d0;clear hnu hb2)
    | (go_at_call 43;refine (HDr.out _ g HB2.out HN2.out).mono ?_;rintro e w4 ⟨rfl,hn4,hs4⟩;(have HX4:=hide (And.intro hn4 hs4));(obtain⟨j0,j1,j2,j3,j4,j5⟩:=hs4.cells);(obtain⟨z0,z1,z2,z3⟩:=hs4.out);unfold ptr at j0;clear hn4 hs4)))
   all_goals
    have hfin:=HX4.out.2.fin HOK.out HX4.out.1
    have r0:=cell_of_row _ _ 0 _ _ (0,0) hfin.2
    have r1:=cell_of_row _ _ 1 _ _ (0,0) hfin.2
    have HFin:=hide hfin.1
    clear hfin
    go_wp2
    refine bodyPost_ret (v:=.tuple #[.agg #[.nilIface,.string e0],.int .i64 0]) (by first|(simp[results,Tryz.results42,go_sem,r0,r1];done)|(simp[results,Tryz.results42,go_sem];done)) rfl ?_
    rw[HD.out]
    first|exact HFin.out|exact HFin.out.drew
 ·have HDr:Hid (∀W g,Below W0.heap.size W0 W→Nums W (some ⟨g,0,none⟩) (pathN k)→Calls Tryz.prog 43 #[st,.agg #[u,.string e0],.slice (some ⟨g,0,none⟩) (pathN k).length (2 * k.size)] W fun e w' => ∃t4 b4,e=.returned (.tuple #[.agg #[.iface t4 (ptr b4),.string e0],.int .i64 0])∧NdAt Hk (fun k=>ok k∨w.heap.size+3≤k) w' (n.drop (pathN k)) (.iface t4 (ptr b4))∧SBox w w' T bx st u k e0):=fun W g hW hnu=>by
   refine (HDr0.out W g hW hnu).mono ?_
   rintro e w' ⟨v', rfl,h1,h2⟩
   obtain⟨t4,b4,rfl⟩:=h1.some hz
   exact⟨t4,b4,rfl,h1,h2⟩
  clear HDr0 hz
  rcases hnd with rfl|⟨t,b,rfl⟩
  ·unfold ptr at *
   go_enter Tryz.func42,Tryz.ntmps42
   go_wp2_with fail
   first|rw[hW0] | skip
   clear hW0
   go_region_held3 (fun W=>W.cell? ⟨bx,0,none⟩=some (.pointer (some ⟨T,0,none⟩))∧W.cell? ⟨T,0,none⟩=some st∧W.cell? ⟨w.heap.size,0,none⟩=some .nilIface∧W.cell? ⟨w.heap.size,1,none⟩=some (.string e0)∧W.cell? ⟨w.heap.size+1,0,none⟩=some (.string k)∧W.cell? ⟨w.heap.size+1,1,none⟩=some (.string e0)) (first|go_keep|(simp[*])) ((first
    | (go_at_call 44;refine (HOf.out _ (by first|exact (Below.refl _ _).drew|exact Below.refl _ _)).mono ?_;rintro e w2 ⟨g,rfl,hnu,hb2⟩;(have HN2:=hide hnu);(have HB2:=hide hb2);(obtain⟨d0,d1,d2,d3,d4,d5⟩:=(HKp.out w2 hb2).cells);unfold ptr at d0;clear hnu hb2)
    | (go_at_call 43;refine (HDr.out _ g HB2.out HN2.out).mono ?_;rintro e w4 ⟨t4,b4,rfl,hn4,hs4⟩;(have HX4:=hide (And.intro hn4 hs4));(obtain⟨j0,j1,j2,j3,j4,j5⟩:=hs4.cells);(obtain⟨z0,z1,z2,z3⟩:=hs4.out);unfold ptr at j0;clear hn4 hs4)))
   all_goals
    have hfin:=HX4.out.2.fin HOK.out HX4.out.1
    have r0:=cell_of_row _ _ 0 _ _ (0,0) hfin.2
    have r1:=cell_of_row _ _ 1 _ _ (0,0) hfin.2
    have HFin:=hide hfin.1
    clear hfin
    go_wp2
    refine bodyPost_ret (v:=.tuple #[.agg #[.iface t4 (.pointer (some ⟨b4,0,none⟩)),.string e0],.int .i64 0]) (by first|(simp[results,Tryz.results42,go_sem,r0,r1];done)|(simp[results,Tryz.results42,go_sem];done)) rfl ?_
    rw[HD.out]
    first|exact HFin.out|exact HFin.out.drew
  ·unfold ptr at *
   go_enter Tryz.func42,Tryz.ntmps42
   go_wp2_with fail
   first|rw[hW0] | skip
   clear hW0
   go_region_held3 (fun W=>W.cell? ⟨bx,0,none⟩=some (.pointer (some ⟨T,0,none⟩))∧W.cell? ⟨T,0,none⟩=some st∧W.cell? ⟨w.heap.size,0,none⟩=some (.iface t (.pointer (some ⟨b,0,none⟩)))∧W.cell? ⟨w.heap.size,1,none⟩=some (.string e0)∧W.cell? ⟨w.heap.size+1,0,none⟩=some (.string k)∧W.cell? ⟨w.heap.size+1,1,none⟩=some (.string e0)) (first|go_keep|(simp[*])) ((first
    | (go_at_call 44;refine (HOf.out _ (by first|exact (Below.refl _ _).drew|exact Below.refl _ _)).mono ?_;rintro e w2 ⟨g,rfl,hnu,hb2⟩;(have HN2:=hide hnu);(have HB2:=hide hb2);(obtain⟨d0,d1,d2,d3,d4,d5⟩:=(HKp.out w2 hb2).cells);unfold ptr at d0;clear hnu hb2)
    | (go_at_call 43;refine (HDr.out _ g HB2.out HN2.out).mono ?_;rintro e w4 ⟨t4,b4,rfl,hn4,hs4⟩;(have HX4:=hide (And.intro hn4 hs4));(obtain⟨j0,j1,j2,j3,j4,j5⟩:=hs4.cells);(obtain⟨z0,z1,z2,z3⟩:=hs4.out);unfold ptr at j0;clear hn4 hs4)))
   all_goals
    have hfin:=HX4.out.2.fin HOK.out HX4.out.1
    have r0:=cell_of_row _ _ 0 _ _ (0,0) hfin.2
    have r1:=cell_of_row _ _ 1 _ _ (0,0) hfin.2
    have HFin:=hide hfin.1
    clear hfin
    go_wp2
    refine bodyPost_ret (v:=.tuple #[.agg #[.iface t4 (.pointer (some ⟨b4,0,none⟩)),.string e0],.int .i64 0]) (by first|(simp[results,Tryz.results42,go_sem,r0,r1];done)|(simp[results,Tryz.results42,go_sem];done)) rfl ?_
    rw[HD.out]
    first|exact HFin.out|exact HFin.out.drew
theorem putStep (Hk:Nd→ByteArray→Prop)(hnn:∀n g,Hk n g→n≠.nil)(ok:Nat→Prop)(T bx:Nat)(st:Value)(n:Nd)(u:Value)(k v:ByteArray)(w:World)(hok:∀k,ok k→k<w.heap.size)(hn:NdAt Hk ok w n u)(hO:TOk n)(hk:k.size≤64)(hv:v.size≤400)
  (hbx:w.heap[bx]? = some (.cells #[ptr T] 104 (0,0))) (hT:w.cell? ⟨T,0,none⟩=some st) :
  Calls Tryz.prog 42 #[.agg #[u,.string e0],.agg #[.string k,.string v],ptr bx] w fun e w' => RefPost Hk ok (n.set (pathN k) v) w e w' := by
 by_cases h:v.size=0
 ·obtain rfl:=e0_of h
  exact putStep_del Hk ok T bx st n u k w hok hn hO hk hbx hT
 ·exact putStep_val Hk hnn ok T bx st n u k v w hok hn hO hk hv h hbx hT
abbrev Pr:=ByteArray×ByteArray
def pr0:Pr:=(e0,e0)
def Prs (w:World)(ao:Option Addr)(ps:List Pr):Prop:=∀i,i<ps.length→∃g o,ao=some ⟨g,o,none⟩∧w.cell? ⟨g,o+i*2,none⟩=some (.string (ps.getD i pr0).1)∧w.cell? ⟨g,o+i*2+1,none⟩=some (.string (ps.getD i pr0).2)
theorem Prs.keep {w w' : World}{ao:Option Addr}{ps:List Pr}(h:Prs w ao ps)(hb:Below w.heap.size w w'):Prs w' ao ps:=fun i hi=>by
 obtain⟨g,o,e,h1,h2⟩:=h i hi
 exact⟨g,o,e,(hb.cell (p:=⟨g,o+i*2,none⟩) (World.block_lt_of_cell? w _ h1)).trans h1,(hb.cell (p:=⟨g,o+i*2+1,none⟩) (World.block_lt_of_cell? w _ h2)).trans h2⟩
def setAll (n:Nd)(ps:List Pr):Nd:=ps.foldl (fun n p=>n.set (pathN p.1) p.2) n
theorem setAll_snoc (n:Nd)(ps:List Pr)(i:Nat)(h:i<ps.length):setAll n (ps.take (i+1))=(setAll n (ps.take i)).set (pathN (ps.getD i pr0).1) (ps.getD i pr0).2:=by
 unfold setAll
 rw[List.take_succ_eq_append_getElem h,List.foldl_append,List.getD_eq_getElem?_getD,List.getElem?_eq_getElem h];rfl
theorem getD_in {α:Type}{l:List α}{i:Nat}{d:α}(h:i<l.length):l.getD i d∈l:=by
 rw[List.getD_eq_getElem?_getD,List.getElem?_eq_getElem h];exact List.getElem_mem h
theorem TOk.setAll {n:Nd}(h:TOk n):∀(ps:List Pr),(∀p∈ps,p.1.size≤64∧p.2.size≤400)→TOk (setAll n ps)
 | [],_=>h
 | p :: ps,hp=>by
   have h1:=hp p (List.mem_cons_self ..)
   exact TOk.setAll (h.set (pathN_lt _) (by rw[pathN_length];omega) h1.2) ps (fun q hq=>hp q (List.mem_cons_of_mem _ hq))
structure TreeAt (Hk:Nd→ByteArray→Prop)(ok:Nat→Prop)(w:World)(T:Nat)(st:Value)(n:Nd):Prop where
 held:∃u,w.heap[T]? = some (.cells #[st,u,.string e0] 71 (0,0))∧NdAt Hk ok w n u
 blk:∀k,ok k→k<w.heap.size∧k≠T
theorem TreeAt.lt {Hk:Nd→ByteArray→Prop}{ok:Nat→Prop}{w:World}{T:Nat}{st:Value}{n:Nd}(h:TreeAt Hk ok w T st n):T<w.heap.size:=by
 obtain⟨u,h1,_⟩:=h.held
 exact (aGe.1 h1).1
theorem TreeAt.keep {Hk:Nd→ByteArray→Prop}{ok:Nat→Prop}{w w' : World}{T:Nat}{st:Value}{n:Nd}(h:TreeAt Hk ok w T st n)(hb:Below w.heap.size w w'):TreeAt Hk ok w' T st n:=by
 have hl:=h.lt
 obtain⟨u,h1,h2⟩:=h.held
 exact⟨⟨u,(hb.block T hl).trans h1,h2.keep hb⟩,fun k hk=>⟨Nat.lt_of_lt_of_le (h.blk k hk).1 hb.size,(h.blk k hk).2⟩⟩
theorem TreeAt.mono {Hk:Nd→ByteArray→Prop}{ok ok' : Nat→Prop}{w:World}{T:Nat}{st:Value}{n:Nd}(h:TreeAt Hk ok w T st n)(hk:∀k,ok k→ok' k)(hb:∀k,ok' k→k<w.heap.size∧k≠T):TreeAt Hk ok' w T st n:=by
 obtain⟨u,h1,h2⟩:=h.held
 exact⟨⟨u,h1,NdAt.mono hk _ _ h2⟩,hb⟩
def Only (T:Nat)(w w' : World):Prop:=w.grownBy w' (some T)
def okTo (ok:Nat→Prop)(w w' : World):Nat→Prop:=fun k=>ok k∨(w.heap.size≤k∧k<w'.heap.size)
theorem NdAt.both {Hk:Nd→ByteArray→Prop}{ok ok' : Nat→Prop}{w:World}:∀(n:Nd) (v:Value),NdAt Hk ok w n v→NdAt Hk ok' w n v→NdAt Hk (fun k=>ok k∧ok' k) w n v
 | .nil,_,h,_=>h
 | .leaf _ _,_,⟨b,ao,cap,h1,o1,o2,h2,h3,h4⟩,h' => by
   obtain⟨b', ao', cap', h1', o1', o2', h2', _⟩:=h'
   obtain rfl:b=b' := by rw[h1] at h1';simpa[ptr] using h1'
   rw[h2] at h2'
   simp only[Option.some.injEq,Obj.cells.injEq] at h2'
   obtain⟨rfl,_⟩:ao=ao' ∧ cap=cap' := by simpa using h2'.1
   exact⟨b,ao,cap,h1,⟨o1,o1'⟩,fun a e hn=>⟨o2 a e hn,o2' a e hn⟩,h2,h3,h4⟩
 | .ext _ n,_,⟨b,ao,cap,u,h,h1,o1,o2,h2,h3,h4,h5,h6,h7⟩,h' => by
   obtain⟨b', ao', cap', u', g', h1', o1', o2', h2', _,_,_,h6', _⟩:=h'
   obtain rfl:b=b' := by rw[h1] at h1';simpa[ptr] using h1'
   rw[h2] at h2'
   simp only[Option.some.injEq,Obj.cells.injEq] at h2'
   obtain⟨⟨rfl,_⟩,rfl,_⟩:(ao=ao' ∧ cap=cap')∧u=u' ∧ h=g' := by simpa using h2'.1
   exact⟨b,ao,cap,u,h,h1,⟨o1,o1'⟩,fun a e hn=>⟨o2 a e hn,o2' a e hn⟩,h2,h3,h4,h5,NdAt.both n u h6 h6', h7⟩
 | .br c _,_,⟨b,us,hs,h1,o1,h2,h3⟩,h' => by
   obtain⟨b', us', hs', h1', o1', h2', h3'⟩:=h'
   obtain rfl:b=b' := by rw[h1] at h1';simpa[ptr] using h1'
   refine⟨b,us,hs,h1,⟨o1,o1'⟩,h2,fun i hi=>⟨NdAt.both (c i) (us i) (h3 i hi).1 ?_,(h3 i hi).2⟩⟩
   have e1:=(br_ref h2 i hi).1
   have e2:=(br_ref h2' i hi).1
   rw[e1] at e2
   have e3:us i=us' i:=by simpa using e2
   rw[e3]
   exact (h3' i hi).1
theorem sizeRef (u:Value)(h:ByteArray):(Tryz.prog.info? 65).map (·.size)=some (#[u,.string h]:Array Value).size:=by
 show _=some 2;kernel_rfl
theorem ref_one {u:Value}(h:isNd u)(s:ByteArray):(#[u,.string s]:Array Value).all (·.oneCell')=true:=by
 rcases h with rfl|⟨t,b,rfl⟩<;>simp[Value.oneCell']
theorem boxNew (w:World)(zs cs:Array Value)(t:TypeId):Below w.heap.size w ((w.alloc (.cells zs t)).setRow w.heap.size cs)∧((w.alloc (.cells zs t)).setRow w.heap.size cs).heap[w.heap.size]? = some (.cells cs t (0,0))∧((w.alloc (.cells zs t)).setRow w.heap.size cs).heap.size=w.heap.size+1:=by
 refine⟨(below_alloc w _).trans ⟨rfl,rfl,rfl,by simp,fun k hk=>setRow_other _ _ _ _ (by omega)⟩,setRow_heap _ _ _ _ _ _ (heap_alloc_new w _),by simp⟩
theorem boxSet {w:World}{R:Nat}{old:Array Value}{t:TypeId}(h:w.heap[R]? = some (.cells old t (0,0)))(cs:Array Value):(w.setRow R cs).heap[R]? = some (.cells cs t (0,0))∧(∀k,k≠R→(w.setRow R cs).heap[k]? = w.heap[k]?)∧w.grownBy (w.setRow R cs) (some R) :=
 ⟨setRow_heap _ _ _ _ _ _ h,fun k hk=>setRow_other _ _ _ _ hk,⟨rfl,rfl,rfl,by simp,fun k _ hk=>setRow_other _ _ _ _ (fun e=>hk (by rw[e]))⟩⟩
structure ChS (Hk:Nd→ByteArray→Prop)(ok:Nat→Prop)(w:World)(n:Nd)(u:Value)(wr:World):Prop where
 box:wr.heap[w.heap.size]? = some (.cells #[u,.string e0] 65 (0,0))
 node:NdAt Hk (fun k=>ok k∨w.heap.size+1≤k) wr n u
 bel:Below w.heap.size w wr
theorem ChS.next {Hk:Nd→ByteArray→Prop}{ok:Nat→Prop}{w:World}{n m:Nd}{u v:Value}{wr W:World}(h:ChS Hk ok w n u wr)(hok:∀k,ok k→k<w.heap.size)(hb:Below wr.heap.size wr W)(hm:NdAt Hk (fun k=>ok k∨w.heap.size+1≤k) W m v):ChS Hk ok w m v (W.setRow w.heap.size #[v,.string e0]):=by
 have hR:W.heap[w.heap.size]? = some (.cells #[u,.string e0] 65 (0,0)):=(hb.block _ (aGe.1 h.box).1).trans h.box
 obtain⟨h1,h2,h3⟩:=boxSet hR #[v,.string e0]
 have hbw:=h.bel.trans (hb.mono h.bel.size)
 refine⟨h1,NdAt.keepIn (fun k hk _=>h2 k ?_) _ _ hm,⟨h3.os.trans hbw.os,h3.tape.trans hbw.tape,h3.output.trans hbw.output,Nat.le_trans hbw.size h3.size,fun k hk=>(h2 k (by omega)).trans (hbw.block k hk)⟩⟩
 rcases hk with hk|hk
 ·have:=hok k hk;omega
 ·omega
theorem ChS.fin {Hk:Nd→ByteArray→Prop}{ok:Nat→Prop}{w:World}{n:Nd}{u u0 st:Value}{wr:World}{T:Nat}(h:ChS Hk ok w n u wr)(hok:∀k,ok k→k<w.heap.size∧k≠T)(hT:w.heap[T]? = some (.cells #[st,u0,.string e0] 71 (0,0))) :
  Only T w ((wr.setCell ⟨T,1,none⟩ u).setCell ⟨T,2,none⟩ (.string e0))∧TreeAt Hk (okTo ok w ((wr.setCell ⟨T,1,none⟩ u).setCell ⟨T,2,none⟩ (.string e0))) ((wr.setCell ⟨T,1,none⟩ u).setCell ⟨T,2,none⟩ (.string e0)) T st n:=by
 have hTl:=(aGe.1 hT).1
 have hTr:=(h.bel.block T hTl).trans hT
 have ho:∀k,k≠T→((wr.setCell ⟨T,1,none⟩ u).setCell ⟨T,2,none⟩ (.string e0)).heap[k]? = wr.heap[k]?:=fun k hk=>by
  rw[Below.heap_setCell _ _ _ _ (fun e=>hk e),Below.heap_setCell _ _ _ _ (fun e=>hk e)]
 have hsz:((wr.setCell ⟨T,1,none⟩ u).setCell ⟨T,2,none⟩ (.string e0)).heap.size=wr.heap.size:=by simp[World.setCell]
 refine⟨⟨h.bel.os,h.bel.tape,h.bel.output,by rw[hsz];exact h.bel.size,fun k hk hne=>(ho k (fun e=>hne (by rw[e]))).trans (h.bel.block k hk)⟩,⟨⟨u,?_,?_⟩,fun k hk=>?_⟩⟩
 ·have h1:=heap_setCell_same wr T 1 _ 71 u hTr
  have h2:=heap_setCell_same _ T 2 _ 71 (.string e0) h1
  exact h2
 ·have hn:=NdAt.both _ _ h.node (NdAt.lt _ _ h.node)
  refine NdAt.mono (fun k hk=>?_) _ _ (NdAt.keepIn (fun k hk _=>ho k ?_) _ _ hn)
  ·have hs:=hk.2
   have:k<wr.heap.size:=hs
   unfold okTo
   rw[hsz]
   rcases hk.1 with hk|hk
   ·exact .inl hk
   ·exact .inr ⟨by omega,this⟩
  ·rcases hk.1 with hk|hk
   ·exact (hok k hk).2
   ·omega
 ·rw[hsz]
  unfold okTo at hk
  rw[hsz] at hk
  have:=h.bel.size
  rcases hk with hk|hk
  ·have:=hok k hk;exact⟨by omega,this.2⟩
  ·exact⟨hk.2,by omega⟩
theorem changeP_any (Hk:Nd→ByteArray→Prop)(hnn:∀n g,Hk n g→n≠.nil)(ok:Nat→Prop)(T bx:Nat)(st:Value)(n:Nd)(ao:Option Addr)(cap:Nat)(ps:List Pr)(w:World)(hA:TreeAt Hk ok w T st n)(hO:TOk n)(hbx:w.heap[bx]? = some (.cells #[ptr T] 104 (0,0)))(hm:Prs w ao ps)(hb:∀p∈ps,p.1.size≤64∧p.2.size≤400)(hl:ps.length≤10000000000000) :
  Calls Tryz.prog 41 #[ptr T,.slice ao ps.length cap,.func (.func 42) #[] #[ptr bx]] w fun e w' => e=.returned (.int .i64 0)∧Only T w w' ∧ TreeAt Hk (okTo ok w w') w' T st (setAll n ps):=by
 have hTl:=hA.lt
 have HBl:=hide hA.blk
 obtain⟨u0,hT0,hn0⟩:=hA.held
 have hst:w.cell? ⟨T,0,none⟩=some st:=cell_of_row _ _ 0 _ _ (0,0) hT0
 have HT0:=hide hT0
 have HM:=hide hm
 have HO:Hid (∀i,TOk (setAll n (ps.take i))):=fun i=>hO.setAll _ (fun p hp=>hb p (List.mem_of_mem_take hp))
 have hbl:=(aGe.1 hbx).1
 have HSt:Hid (∀(i:Nat) (u:Value) (W:World),i<ps.length→w.heap.size+1≤W.heap.size→Below w.heap.size w W→NdAt Hk (fun k=>ok k∨w.heap.size+1≤k) W (setAll n (ps.take i)) u→Calls Tryz.prog 42 #[.agg #[u,.string e0],.agg #[.string (ps.getD i pr0).1,.string (ps.getD i pr0).2],ptr bx] W fun e w' => ∃v', e=.returned (.tuple #[.agg #[v', .string e0],.int .i64 0])∧isNd v' ∧ NdAt Hk (fun k=>ok k∨w.heap.size+1≤k) w' (setAll n (ps.take (i+1))) v' ∧ Below W.heap.size W w'):=fun i u W hi hz hW hnu=>by
  have hin:=hb _ (getD_in (d:=pr0) hi)
  refine (putStep Hk hnn (fun k=>(ok k∨w.heap.size+1≤k)∧k<W.heap.size) T bx st _ u _ _ W (fun k hk=>hk.2) (NdAt.both _ _ hnu (NdAt.lt _ _ hnu)) (HO.out i) hin.1 hin.2 ((hW.block bx hbl).trans hbx) ((hW.cell (p:=⟨T,0,none⟩) hTl).trans hst)).mono ?_
  rintro e w' ⟨v', rfl,h1,h2⟩
  refine⟨v', rfl,h1.isNd,?_,h2⟩
  rw[setAll_snoc n ps i hi]
  refine NdAt.mono (fun k hk=>?_) _ _ h1
  rcases hk with⟨hk,_⟩|hk
  ·exact hk
  ·exact .inr (by omega)
 clear hb hO hm hst
 have hnd0:=hn0.isNd
 have c1:w.cell? ⟨T,1,none⟩=some u0:=cell_of_row _ _ 1 _ _ (0,0) hT0
 have c2:w.cell? ⟨T,2,none⟩=some (.string e0):=cell_of_row _ _ 2 _ _ (0,0) hT0
 have HOne:=hide (ref_one hnd0 e0)
 have HS0:Hid (∀zs,ChS Hk ok w n u0 ((w.alloc (.cells zs 65)).setRow w.heap.size #[u0,.string e0])):=fun zs=>by
  obtain⟨h1,h2,h3⟩:=boxNew w zs #[u0,.string e0] 65
  exact⟨h2,NdAt.mono (fun k hk=>.inl hk) _ _ (hn0.keep h1),h1⟩
 clear hn0 hT0 hbx
 rcases hnd0 with rfl|⟨t0,b0,rfl⟩
 ·unfold ptr at *
  go_enter Tryz.func41,Tryz.ntmps41
  go_wp2_with (first
   | (refine wpList_store_row rfl 65 (.tmp 7) (.tmp 15) rfl w.heap.size _ rfl rfl 65 _ (heap_alloc_new w _) (sizeRef _ _) rfl HOne.out ?_)
   | fail)
  have HSS:=hide (HS0.out #[.nilIface,.string ⟨#[]⟩])
  generalize World.setRow _ _ _=W1 at *
  clear c1 c2 HOne HS0
  go_loopw [18] (fun iv wr=>∃(i:Nat) (u:Value),i≤ps.length∧iv=.int .i64 (i:Int)∧Hid (ChS Hk ok w (setAll n (ps.take i)) u wr)) (fun iv _=>ps.length - (intOf iv).toNat)
  case atStart=>exact⟨0,_,by omega,rfl,HSS⟩
  case round =>
   obtain⟨i,u,hi,rfl,HS⟩:=hrel
   have HNd:=hide HS.out.node.isNd
   by_cases hlt:i<ps.length
   ·have j0:(0:Int)≤(i:Int):=by omega
    have j1:(i:Int)<(ps.length:Int):=by omega
    obtain⟨g,o,rfl,e1,e2⟩:=HM.out.keep HS.out.bel i hlt
    have HSi:=hide (HSt.out i u)
    generalize ps.getD i pr0=x at *
    obtain⟨xk,xv⟩:=x
    simp only at e1 e2 HSi
    have HWb:Hid (Below wr.heap.size wr (wr.alloc (.cells #[.string xk,.string xv] 33))):=below_alloc _ _
    have HR:Hid ((wr.alloc (.cells #[.string xk,.string xv] 33)).heap[w.heap.size]? = some (.cells #[u,.string e0] 65 (0,0))):=(Below.heap_alloc _ _ _ (aGe.1 HS.out.box).1).trans HS.out.box
    have HC1:=hide (HSi.out (wr.alloc (.cells #[.string xk,.string xv] 33)) hlt (by have:=(aGe.1 HS.out.box).1;have:=HWb.out.size;omega) (HS.out.bel.trans (HWb.out.mono HS.out.bel.size)) (HS.out.node.keep HWb.out))
    have HOne:=hide (ref_one HNd.out e0)
    go_wp2_with (first
     | (refine wpList_load_row rfl 65 (.tmp 7) rfl w.heap.size rfl 65 _ (0,0) _ HR.out Tryz.underlying65 rfl (sizeRef _ _) ?_)
     | fail)
    generalize World.alloc wr _=Wb at *
    refine HC1.out.mono ?_
    rintro e w3 ⟨v3,rfl,hnd3,hn3,hb3⟩
    have HOne3:=hide (ref_one hnd3 e0)
    have HN3:=hide hn3
    have HB3:Hid (Below wr.heap.size wr w3):=HWb.out.trans (hb3.mono HWb.out.size)
    clear hnd3 hn3 hb3
    have HBx:Hid (∀zs,Below wr.heap.size wr ((w3.alloc (.cells zs 65)).setRow w3.heap.size #[v3,.string e0])∧((w3.alloc (.cells zs 65)).setRow w3.heap.size #[v3,.string e0]).heap[w3.heap.size]? = some (.cells #[v3,.string e0] 65 (0,0))∧NdAt Hk (fun k=>ok k∨w.heap.size+1≤k) ((w3.alloc (.cells zs 65)).setRow w3.heap.size #[v3,.string e0]) (setAll n (ps.take (i+1))) v3):=fun zs=>by
     obtain⟨h1,h2,h3⟩:=boxNew w3 zs #[v3,.string e0] 65
     exact⟨HB3.out.trans (h1.mono HB3.out.size),h2,HN3.out.keep h1⟩
    go_wp2_with (first
     | (refine wpList_store_row rfl 65 (.tmp 10) (.tmp 27) rfl w3.heap.size _ rfl rfl 65 _ (heap_alloc_new w3 _) (sizeRef _ _) rfl HOne3.out ?_;have HBX:=hide (HBx.out #[.nilIface,.string ⟨#[]⟩]);generalize World.setRow (World.alloc w3 _) _ _=X at *)
     | (refine wpList_load_row rfl 65 (.tmp 10) rfl w3.heap.size rfl 65 _ (0,0) _ HBX.out.2.1 Tryz.underlying65 rfl (sizeRef _ _) ?_)
     | (refine wpList_store_row rfl 65 (.tmp 7) (.tmp 32) rfl w.heap.size _ rfl rfl 65 _ ((HBX.out.1.block _ (aGe.1 HS.out.box).1).trans HS.out.box) (sizeRef _ _) rfl HOne3.out ?_)
     | fail)
    have HS4:=hide (HS.out.next (fun k hk=>(HBl.out k hk).1) HBX.out.1 HBX.out.2.2)
    go_roundw
    case rel=>exact⟨i+1,v3,by omega,by go_num,HS4⟩
    case measure=>simp[intOf];omega
   ·obtain rfl:i=ps.length:=by omega
    rw[List.take_length] at HS
    have HF:=hide (HS.out.fin HBl.out HT0.out)
    have hTr:=(HS.out.bel.block T hTl).trans HT0.out
    have z1:=cell_of_row _ T 1 _ _ (0,0) hTr
    have z2:=cell_of_row _ T 2 _ _ (0,0) hTr
    have zf1:=frozen_of_row _ T 1 _ _ hTr
    have zf2:=frozen_of_row _ T 2 _ _ hTr
    have x0:wr.cell? ⟨w.heap.size,0,none⟩=some u:=cell_of_row _ _ 0 _ _ (0,0) HS.out.box
    have x1:wr.cell? ⟨w.heap.size,1,none⟩=some (.string e0):=cell_of_row _ _ 1 _ _ (0,0) HS.out.box
    simp only[List.getElem?_toArray,List.getElem?_cons_zero,List.getElem?_cons_succ] at z1 z2
    clear hTr
    rcases HNd.out with rfl|⟨tu,bu,rfl⟩
    ·go_wp2
     go_ret
     exact⟨rfl,HF.out.1,HF.out.2⟩
    ·unfold ptr at *
     go_wp2
     go_ret
     exact⟨rfl,HF.out.1,HF.out.2⟩
 ·unfold ptr at *
  go_enter Tryz.func41,Tryz.ntmps41
  go_wp2_with (first
   | (refine wpList_store_row rfl 65 (.tmp 7) (.tmp 15) rfl w.heap.size _ rfl rfl 65 _ (heap_alloc_new w _) (sizeRef _ _) rfl HOne.out ?_)
   | fail)
  have HSS:=hide (HS0.out #[.nilIface,.string ⟨#[]⟩])
  generalize World.setRow _ _ _=W1 at *
  clear c1 c2 HOne HS0
  go_loopw [18] (fun iv wr=>∃(i:Nat) (u:Value),i≤ps.length∧iv=.int .i64 (i:Int)∧Hid (ChS Hk ok w (setAll n (ps.take i)) u wr)) (fun iv _=>ps.length - (intOf iv).toNat)
  case atStart=>exact⟨0,_,by omega,rfl,HSS⟩
  case round =>
   obtain⟨i,u,hi,rfl,HS⟩:=hrel
   have HNd:=hide HS.out.node.isNd
   by_cases hlt:i<ps.length
   ·have j0:(0:Int)≤(i:Int):=by omega
    have j1:(i:Int)<(ps.length:Int):=by omega
    obtain⟨g,o,rfl,e1,e2⟩:=HM.out.keep HS.out.bel i hlt
    have HSi:=hide (HSt.out i u)
    generalize ps.getD i pr0=x at *
    obtain⟨xk,xv⟩:=x
    simp only at e1 e2 HSi
    have HWb:Hid (Below wr.heap.size wr (wr.alloc (.cells #[.string xk,.string xv] 33))):=below_alloc _ _
    have HR:Hid ((wr.alloc (.cells #[.string xk,.string xv] 33)).heap[w.heap.size]? = some (.cells #[u,.string e0] 65 (0,0))):=(Below.heap_alloc _ _ _ (aGe.1 HS.out.box).1).trans HS.out.box
    have HC1:=hide (HSi.out (wr.alloc (.cells #[.string xk,.string xv] 33)) hlt (by have:=(aGe.1 HS.out.box).1;have:=HWb.out.size;omega) (HS.out.bel.trans (HWb.out.mono HS.out.bel.size)) (HS.out.node.keep HWb.out))
    have HOne:=hide (ref_one HNd.out e0)
    go_wp2_with (first
     | (refine wpList_load_row rfl 65 (.tmp 7) rfl w.heap.size rfl 65 _ (0,0) _ HR.out Tryz.underlying65 rfl (sizeRef _ _) ?_)
     | fail)
    generalize World.alloc wr _=Wb at *
    refine HC1.out.mono ?_
    rintro e w3 ⟨v3,rfl,hnd3,hn3,hb3⟩
    have HOne3:=hide (ref_one hnd3 e0)
    have HN3:=hide hn3
    have HB3:Hid (Below wr.heap.size wr w3):=HWb.out.trans (hb3.mono HWb.out.size)
    clear hnd3 hn3 hb3
    have HBx:Hid (∀zs,Below wr.heap.size wr ((w3.alloc (.cells zs 65)).setRow w3.heap.size #[v3,.string e0])∧((w3.alloc (.cells zs 65)).setRow w3.heap.size #[v3,.string e0]).heap[w3.heap.size]? = some (.cells #[v3,.string e0] 65 (0,0))∧NdAt Hk (fun k=>ok k∨w.heap.size+1≤k) ((w3.alloc (.cells zs 65)).setRow w3.heap.size #[v3,.string e0]) (setAll n (ps.take (i+1))) v3):=fun zs=>by
     obtain⟨h1,h2,h3⟩:=boxNew w3 zs #[v3,.string e0] 65
     exact⟨HB3.out.trans (h1.mono HB3.out.size),h2,HN3.out.keep h1⟩
    go_wp2_with (first
     | (refine wpList_store_row rfl 65 (.tmp 10) (.tmp 27) rfl w3.heap.size _ rfl rfl 65 _ (heap_alloc_new w3 _) (sizeRef _ _) rfl HOne3.out ?_;have HBX:=hide (HBx.out #[.nilIface,.string ⟨#[]⟩]);generalize World.setRow (World.alloc w3 _) _ _=X at *)
     | (refine wpList_load_row rfl 65 (.tmp 10) rfl w3.heap.size rfl 65 _ (0,0) _ HBX.out.2.1 Tryz.underlying65 rfl (sizeRef _ _) ?_)
     | (refine wpList_store_row rfl 65 (.tmp 7) (.tmp 32) rfl w.heap.size _ rfl rfl 65 _ ((HBX.out.1.block _ (aGe.1 HS.out.box).1).trans HS.out.box) (sizeRef _ _) rfl HOne3.out ?_)
     | fail)
    have HS4:=hide (HS.out.next (fun k hk=>(HBl.out k hk).1) HBX.out.1 HBX.out.2.2)
    go_roundw
    case rel=>exact⟨i+1,v3,by omega,by go_num,HS4⟩
    case measure=>simp[intOf];omega
   ·obtain rfl:i=ps.length:=by omega
    rw[List.take_length] at HS
    have HF:=hide (HS.out.fin HBl.out HT0.out)
    have hTr:=(HS.out.bel.block T hTl).trans HT0.out
    have z1:=cell_of_row _ T 1 _ _ (0,0) hTr
    have z2:=cell_of_row _ T 2 _ _ (0,0) hTr
    have zf1:=frozen_of_row _ T 1 _ _ hTr
    have zf2:=frozen_of_row _ T 2 _ _ hTr
    have x0:wr.cell? ⟨w.heap.size,0,none⟩=some u:=cell_of_row _ _ 0 _ _ (0,0) HS.out.box
    have x1:wr.cell? ⟨w.heap.size,1,none⟩=some (.string e0):=cell_of_row _ _ 1 _ _ (0,0) HS.out.box
    simp only[List.getElem?_toArray,List.getElem?_cons_zero,List.getElem?_cons_succ] at z1 z2
    clear hTr
    rcases HNd.out with rfl|⟨tu,bu,rfl⟩
    ·go_wp2
     go_ret
     exact⟨rfl,HF.out.1,HF.out.2⟩
    ·unfold ptr at *
     go_wp2
     go_ret
     exact⟨rfl,HF.out.1,HF.out.2⟩
end Go.Proofs.YthdjmldddjljfaaGreatDoor
