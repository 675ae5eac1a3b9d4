/-
  OUR OWN.
-/
import Derived.Test.YthdjmldddjljfaaGreatDoorG39
set_option maxHeartbeats 8000000
set_option maxRecDepth 20000
namespace Go.Proofs.YthdjmldddjljfaaGreatDoor
open Go.RowKit
attribute [local go_sem ↓] Go.wp_at_zero Go.wp_at_succ
theorem sizeRef (u:Value)(h:ByteArray):(Tryz.prog.info? 65).map (·.size)=some (#[u,.string h]:Array Value).size:=by
 show _=some 2;kernel_rfl
theorem ref_one {u:Value}(h:isNd u)(s:ByteArray):(#[u,.string s]:Array Value).all (·.oneCell')=true:=by
 rcases h with rfl|⟨t,b,rfl⟩<;>simp[Value.oneCell']
theorem boxNew (w:World)(zs cs:Array Value)(t:TypeId):Below w.heap.size w ((w.alloc (.cells zs t)).setRow w.heap.size cs)∧((w.alloc (.cells zs t)).setRow w.heap.size cs).heap[w.heap.size]? = some (.cells cs t (0,0))∧((w.alloc (.cells zs t)).setRow w.heap.size cs).heap.size=w.heap.size+1:=by
 refine⟨(below_alloc w _).trans ⟨rfl,rfl,rfl,by simp,fun k hk=>setRow_other _ _ _ _ (by omega)⟩,setRow_heap _ _ _ _ _ _ (heap_alloc_new w _),by simp⟩
theorem boxSet {w:World}{R:Nat}{old:Array Value}{t:TypeId}(h:w.heap[R]? = some (.cells old t (0,0)))(cs:Array Value):(w.setRow R cs).heap[R]? = some (.cells cs t (0,0))∧(∀k,k≠R→(w.setRow R cs).heap[k]? = w.heap[k]?)∧w.grownBy (w.setRow R cs) (some R) :=
 ⟨setRow_heap _ _ _ _ _ _ h,fun k hk=>setRow_other _ _ _ _ hk,⟨rfl,rfl,rfl,by simp,fun k _ hk=>setRow_other _ _ _ _ (fun e=>hk (by rw[e]))⟩⟩
structure ChS (Hk:Nd→ByteArray→Prop)(ok:Nat→Prop)(w:World)(n:Nd)(u:Value)(wr:World):Prop where
 box:wr.heap[w.heap.size]? = some (.cells #[u,.string e0] 65 (0,0))
 node:NdAt Hk (fun k=>ok k∨w.heap.size+1≤k) wr n u
 bel:Below w.heap.size w wr
theorem ChS.next {Hk:Nd→ByteArray→Prop}{ok:Nat→Prop}{w:World}{n m:Nd}{u v:Value}{wr W:World}(h:ChS Hk ok w n u wr)(hok:∀k,ok k→k<w.heap.size)(hb:Below wr.heap.size wr W)(hm:NdAt Hk (fun k=>ok k∨w.heap.size+1≤k) W m v):ChS Hk ok w m v (W.setRow w.heap.size #[v,.string e0]):=by
 have hR:W.heap[w.heap.size]? = some (.cells #[u,.string e0] 65 (0,0)):=(hb.block _ (aGe.1 h.box).1).trans h.box
 obtain⟨h1,h2,h3⟩:=boxSet hR #[v,.string e0]
 have hbw:=h.bel.trans (hb.mono h.bel.size)
 refine⟨h1,NdAt.keepIn (fun k hk _=>h2 k ?_) _ _ hm,⟨h3.os.trans hbw.os,h3.tape.trans hbw.tape,h3.output.trans hbw.output,Nat.le_trans hbw.size h3.size,fun k hk=>(h2 k (by omega)).trans (hbw.block k hk)⟩⟩
 rcases hk with hk|hk
 ·have:=hok k hk;omega
 ·omega
theorem ChS.fin {Hk:Nd→ByteArray→Prop}{ok:Nat→Prop}{w:World}{n:Nd}{u u0 st:Value}{wr:World}{T:Nat}(h:ChS Hk ok w n u wr)(hok:∀k,ok k→k<w.heap.size∧k≠T)(hT:w.heap[T]? = some (.cells #[st,u0,.string e0] 71 (0,0))) :
  Only T w ((wr.setCell ⟨T,1,none⟩ u).setCell ⟨T,2,none⟩ (.string e0))∧TreeAt Hk (okTo ok w ((wr.setCell ⟨T,1,none⟩ u).setCell ⟨T,2,none⟩ (.string e0))) ((wr.setCell ⟨T,1,none⟩ u).setCell ⟨T,2,none⟩ (.string e0)) T st n:=by
 have hTl:=(aGe.1 hT).1
 have hTr:=(h.bel.block T hTl).trans hT
 have ho:∀k,k≠T→((wr.setCell ⟨T,1,none⟩ u).setCell ⟨T,2,none⟩ (.string e0)).heap[k]? = wr.heap[k]?:=fun k hk=>by
  rw[Below.heap_setCell _ _ _ _ (fun e=>hk e),Below.heap_setCell _ _ _ _ (fun e=>hk e)]
 have hsz:((wr.setCell ⟨T,1,none⟩ u).setCell ⟨T,2,none⟩ (.string e0)).heap.size=wr.heap.size:=by simp[World.setCell]
 refine⟨⟨h.bel.os,h.bel.tape,h.bel.output,by rw[hsz];exact h.bel.size,fun k hk hne=>(ho k (fun e=>hne (by rw[e]))).trans (h.bel.block k hk)⟩,⟨⟨u,?_,?_⟩,fun k hk=>?_⟩⟩
 ·have h1:=heap_setCell_same wr T 1 _ 71 u hTr
  have h2:=heap_setCell_same _ T 2 _ 71 (.string e0) h1
  exact h2
 ·have hn:=NdAt.both _ _ h.node (NdAt.lt _ _ h.node)
  refine NdAt.mono (fun k hk=>?_) _ _ (NdAt.keepIn (fun k hk _=>ho k ?_) _ _ hn)
  ·have hs:=hk.2
   have:k<wr.heap.size:=hs
   unfold okTo
   rw[hsz]
   rcases hk.1 with hk|hk
   ·exact .inl hk
   ·exact .inr ⟨by omega,this⟩
  ·rcases hk.1 with hk|hk
   ·exact (hok k hk).2
   ·omega
 ·rw[hsz]
  unfold okTo at hk
  rw[hsz] at hk
  have:=h.bel.size
  rcases hk with hk|hk
  ·have:=hok k hk;exact⟨by omega,this.2⟩
  ·exact⟨hk.2,by omega⟩
theorem changeP_any (Hk:Nd→ByteArray→Prop)(hnn:∀n g,Hk n g→n≠.nil)(ok:Nat→Prop)(T bx:Nat)(st:Value)(n:Nd)(ao:Option Addr)(cap:Nat)(ps:List Pr)(w:World)(hA:TreeAt Hk ok w T st n)(hO:TOk n)(hbx:w.heap[bx]? = some (.cells #[ptr T] 104 (0,0)))(hm:Prs w ao ps)(hb:∀p∈ps,p.1.size≤64∧p.2.size≤400)(hl:ps.length≤10000000000000) :
  Calls Tryz.prog 41 #[ptr T,.slice ao ps.length cap,.func (.func 42) #[] #[ptr bx]] w fun e w' => e=.returned (.int .i64 0)∧Only T w w' ∧ TreeAt Hk (okTo ok w w') w' T st (setAll n ps):=by
 have hTl:=hA.lt
 have HBl:=hide hA.blk
 obtain⟨u0,hT0,hn0⟩:=hA.held
 have hst:w.cell? ⟨T,0,none⟩=some st:=cell_of_row _ _ 0 _ _ (0,0) hT0
 have HT0:=hide hT0
 have HM:=hide hm
 have HO:Hid (∀i,TOk (setAll n (ps.take i))):=fun i=>hO.setAll _ (fun p hp=>hb p (List.mem_of_mem_take hp))
 have hbl:=(aGe.1 hbx).1
 have HSt:Hid (∀(i:Nat) (u:Value) (W:World),i<ps.length→w.heap.size+1≤W.heap.size→Below w.heap.size w W→NdAt Hk (fun k=>ok k∨w.heap.size+1≤k) W (setAll n (ps.take i)) u→Calls Tryz.prog 42 #[.agg #[u,.string e0],.agg #[.string (ps.getD i pr0).1,.string (ps.getD i pr0).2],ptr bx] W fun e w' => ∃v', e=.returned (.tuple #[.agg #[v', .string e0],.int .i64 0])∧isNd v' ∧ NdAt Hk (fun k=>ok k∨w.heap.size+1≤k) w' (setAll n (ps.take (i+1))) v' ∧ Below W.heap.size W w'):=fun i u W hi hz hW hnu=>by
  have hin:=hb _ (getD_in (d:=pr0) hi)
  refine (putStep Hk hnn (fun k=>(ok k∨w.heap.size+1≤k)∧k<W.heap.size) T bx st _ u _ _ W (fun k hk=>hk.2) (NdAt.both _ _ hnu (NdAt.lt _ _ hnu)) (HO.out i) hin.1 hin.2 ((hW.block bx hbl).trans hbx) ((hW.cell (p:=⟨T,0,none⟩) hTl).trans hst)).mono ?_
  rintro e w' ⟨v', rfl,h1,h2⟩
  refine⟨v', rfl,h1.isNd,?_,h2⟩
  rw[setAll_snoc n ps i hi]
  refine NdAt.mono (fun k hk=>?_) _ _ h1
  rcases hk with⟨hk,_⟩|hk
  ·exact hk
  ·exact .inr (by omega)
 clear hb hO hm hst
 have hnd0:=hn0.isNd
 have c1:w.cell? ⟨T,1,none⟩=some u0:=cell_of_row _ _ 1 _ _ (0,0) hT0
 have c2:w.cell? ⟨T,2,none⟩=some (.string e0):=cell_of_row _ _ 2 _ _ (0,0) hT0
 have HOne:=hide (ref_one hnd0 e0)
 have HS0:Hid (∀zs,ChS Hk ok w n u0 ((w.alloc (.cells zs 65)).setRow w.heap.size #[u0,.string e0])):=fun zs=>by
  obtain⟨h1,h2,h3⟩:=boxNew w zs #[u0,.string e0] 65
  exact⟨h2,NdAt.mono (fun k hk=>.inl hk) _ _ (hn0.keep h1),h1⟩
 clear hn0 hT0 hbx
 rcases hnd0 with rfl|⟨t0,b0,rfl⟩
 ·unfold ptr at *
  go_enter Tryz.func41,Tryz.ntmps41
  go_wp2_with (first
   | (refine wpList_store_row rfl 65 (.tmp 7) (.tmp 15) rfl w.heap.size _ rfl rfl 65 _ (heap_alloc_new w _) (sizeRef _ _) rfl HOne.out ?_)
   | fail)
  have HSS:=hide (HS0.out #[.nilIface,.string ⟨#[]⟩])
  generalize World.setRow _ _ _=W1 at *
  clear c1 c2 HOne HS0
  go_loopw [18] (fun iv wr=>∃(i:Nat) (u:Value),i≤ps.length∧iv=.int .i64 (i:Int)∧Hid (ChS Hk ok w (setAll n (ps.take i)) u wr)) (fun iv _=>ps.length - (intOf iv).toNat)
  case atStart=>exact⟨0,_,by omega,rfl,HSS⟩
  case round =>
   obtain⟨i,u,hi,rfl,HS⟩:=hrel
   have HNd:=hide HS.out.node.isNd
   by_cases hlt:i<ps.length
   ·have j0:(0:Int)≤(i:Int):=by omega
    have j1:(i:Int)<(ps.length:Int):=by omega
    obtain⟨g,o,rfl,e1,e2⟩:=HM.out.keep HS.out.bel i hlt
    have HSi:=hide (HSt.out i u)
    generalize ps.getD i pr0=x at *
    obtain⟨xk,xv⟩:=x
    simp only at e1 e2 HSi
    have HWb:Hid (Below wr.heap.size wr (wr.alloc (.cells #[.string xk,.string xv] 33))):=below_alloc _ _
    have HR:Hid ((wr.alloc (.cells #[.string xk,.string xv] 33)).heap[w.heap.size]? = some (.cells #[u,.string e0] 65 (0,0))):=(Below.heap_alloc _ _ _ (aGe.1 HS.out.box).1).trans HS.out.box
    have HC1:=hide (HSi.out (wr.alloc (.cells #[.string xk,.string xv] 33)) hlt (by have:=(aGe.1 HS.out.box).1;have:=HWb.out.size;omega) (HS.out.bel.trans (HWb.out.mono HS.out.bel.size)) (HS.out.node.keep HWb.out))
    have HOne:=hide (ref_one HNd.out e0)
    go_wp2_with (first
     | (refine wpList_load_row rfl 65 (.tmp 7) rfl w.heap.size rfl 65 _ (0,0) _ HR.out Tryz.underlying65 rfl (sizeRef _ _) ?_)
     | fail)
    generalize World.alloc wr _=Wb at *
    refine HC1.out.mono ?_
    rintro e w3 ⟨v3,rfl,hnd3,hn3,hb3⟩
    have HOne3:=hide (ref_one hnd3 e0)
    have HN3:=hide hn3
    have HB3:Hid (Below wr.heap.size wr w3):=HWb.out.trans (hb3.mono HWb.out.size)
    clear hnd3 hn3 hb3
    have HBx:Hid (∀zs,Below wr.heap.size wr ((w3.alloc (.cells zs 65)).setRow w3.heap.size #[v3,.string e0])∧((w3.alloc (.cells zs 65)).setRow w3.heap.size #[v3,.string e0]).heap[w3.heap.size]? = some (.cells #[v3,.string e0] 65 (0,0))∧NdAt Hk (fun k=>ok k∨w.heap.size+1≤k) ((w3.alloc (.cells zs 65)).setRow w3.heap.size #[v3,.string e0]) (setAll n (ps.take (i+1))) v3):=fun zs=>by
     obtain⟨h1,h2,h3⟩:=boxNew w3 zs #[v3,.string e0] 65
     exact⟨HB3.out.trans (h1.mono HB3.out.size),h2,HN3.out.keep h1⟩
    go_wp2_with (first
     | (refine wpList_store_row rfl 65 (.tmp 10) (.tmp 27) rfl w3.heap.size _ rfl rfl 65 _ (heap_alloc_new w3 _) (sizeRef _ _) rfl HOne3.out ?_;have HBX:=hide (HBx.out #[.nilIface,.string ⟨#[]⟩]);generalize World.setRow (World.alloc w3 _) _ _=X at *)
     | (refine wpList_load_row rfl 65 (.tmp 10) rfl w3.heap.size rfl 65 _ (0,0) _ HBX.out.2.1 Tryz.underlying65 rfl (sizeRef _ _) ?_)
     | (refine wpList_store_row rfl 65 (.tmp 7) (.tmp 32) rfl w.heap.size _ rfl rfl 65 _ ((HBX.out.1.block _ (aGe.1 HS.out.box).1).trans HS.out.box) (sizeRef _ _) rfl HOne3.out ?_)
     | fail)
    have HS4:=hide (HS.out.next (fun k hk=>(HBl.out k hk).1) HBX.out.1 HBX.out.2.2)
    go_roundw
    case rel=>exact⟨i+1,v3,by omega,by go_num,HS4⟩
    case measure=>simp[intOf];omega
   ·obtain rfl:i=ps.length:=by omega
    rw[List.take_length] at HS
    have HF:=hide (HS.out.fin HBl.out HT0.out)
    have hTr:=(HS.out.bel.block T hTl).trans HT0.out
    have z1:=cell_of_row _ T 1 _ _ (0,0) hTr
    have z2:=cell_of_row _ T 2 _ _ (0,0) hTr
    have zf1:=frozen_of_row _ T 1 _ _ hTr
    have zf2:=frozen_of_row _ T 2 _ _ hTr
    have x0:wr.cell? ⟨w.heap.size,0,none⟩=some u:=cell_of_row _ _ 0 _ _ (0,0) HS.out.box
    have x1:wr.cell? ⟨w.heap.size,1,none⟩=some (.string e0):=cell_of_row _ _ 1 _ _ (0,0) HS.out.box
    simp only[List.getElem?_toArray,List.getElem?_cons_zero,List.getElem?_cons_succ] at z1 z2
    clear hTr
    rcases HNd.out with rfl|⟨tu,bu,rfl⟩
    ·go_wp2
     go_ret
     exact⟨rfl,HF.out.1,HF.out.2⟩
    ·unfold ptr at *
     go_wp2
     go_ret
     exact⟨rfl,HF.out.1,HF.out.2⟩
 ·unfold ptr at *
  go_enter Tryz.func41,Tryz.ntmps41
  go_wp2_with (first
   | (refine wpList_store_row rfl 65 (.tmp 7) (.tmp 15) rfl w.heap.size _ rfl rfl 65 _ (heap_alloc_new w _) (sizeRef _ _) rfl HOne.out ?_)
   | fail)
  have HSS:=hide (HS0.out #[.nilIface,.string ⟨#[]⟩])
  generalize World.setRow _ _ _=W1 at *
  clear c1 c2 HOne HS0
  go_loopw [18] (fun iv wr=>∃(i:Nat) (u:Value),i≤ps.length∧iv=.int .i64 (i:Int)∧Hid (ChS Hk ok w (setAll n (ps.take i)) u wr)) (fun iv _=>ps.length - (intOf iv).toNat)
  case atStart=>exact⟨0,_,by omega,rfl,HSS⟩
  case round =>
   obtain⟨i,u,hi,rfl,HS⟩:=hrel
   have HNd:=hide HS.out.node.isNd
   by_cases hlt:i<ps.length
   ·have j0:(0:Int)≤(i:Int):=by omega
    have j1:(i:Int)<(ps.length:Int):=by omega
    obtain⟨g,o,rfl,e1,e2⟩:=HM.out.keep HS.out.bel i hlt
    have HSi:=hide (HSt.out i u)
    generalize ps.getD i pr0=x at *
    obtain⟨xk,xv⟩:=x
    simp only at e1 e2 HSi
    have HWb:Hid (Below wr.heap.size wr (wr.alloc (.cells #[.string xk,.string xv] 33))):=below_alloc _ _
    have HR:Hid ((wr.alloc (.cells #[.string xk,.string xv] 33)).heap[w.heap.size]? = some (.cells #[u,.string e0] 65 (0,0))):=(Below.heap_alloc _ _ _ (aGe.1 HS.out.box).1).trans HS.out.box
    have HC1:=hide (HSi.out (wr.alloc (.cells #[.string xk,.string xv] 33)) hlt (by have:=(aGe.1 HS.out.box).1;have:=HWb.out.size;omega) (HS.out.bel.trans (HWb.out.mono HS.out.bel.size)) (HS.out.node.keep HWb.out))
    have HOne:=hide (ref_one HNd.out e0)
    go_wp2_with (first
     | (refine wpList_load_row rfl 65 (.tmp 7) rfl w.heap.size rfl 65 _ (0,0) _ HR.out Tryz.underlying65 rfl (sizeRef _ _) ?_)
     | fail)
    generalize World.alloc wr _=Wb at *
    refine HC1.out.mono ?_
    rintro e w3 ⟨v3,rfl,hnd3,hn3,hb3⟩
    have HOne3:=hide (ref_one hnd3 e0)
    have HN3:=hide hn3
    have HB3:Hid (Below wr.heap.size wr w3):=HWb.out.trans (hb3.mono HWb.out.size)
    clear hnd3 hn3 hb3
    have HBx:Hid (∀zs,Below wr.heap.size wr ((w3.alloc (.cells zs 65)).setRow w3.heap.size #[v3,.string e0])∧((w3.alloc (.cells zs 65)).setRow w3.heap.size #[v3,.string e0]).heap[w3.heap.size]? = some (.cells #[v3,.string e0] 65 (0,0))∧NdAt Hk (fun k=>ok k∨w.heap.size+1≤k) ((w3.alloc (.cells zs 65)).setRow w3.heap.size #[v3,.string e0]) (setAll n (ps.take (i+1))) v3):=fun zs=>by
     obtain⟨h1,h2,h3⟩:=boxNew w3 zs #[v3,.string e0] 65
     exact⟨HB3.out.trans (h1.mono HB3.out.size),h2,HN3.out.keep h1⟩
    go_wp2_with (first
     | (refine wpList_store_row rfl 65 (.tmp 10) (.tmp 27) rfl w3.heap.size _ rfl rfl 65 _ (heap_alloc_new w3 _) (sizeRef _ _) rfl HOne3.out ?_;have HBX:=hide (HBx.out #[.nilIface,.string ⟨#[]⟩]);generalize World.setRow (World.alloc w3 _) _ _=X at *)
     | (refine wpList_load_row rfl 65 (.tmp 10) rfl w3.heap.size rfl 65 _ (0,0) _ HBX.out.2.1 Tryz.underlying65 rfl (sizeRef _ _) ?_)
     | (refine wpList_store_row rfl 65 (.tmp 7) (.tmp 32) rfl w.heap.size _ rfl rfl 65 _ ((HBX.out.1.block _ (aGe.1 HS.out.box).1).trans HS.out.box) (sizeRef _ _) rfl HOne3.out ?_)
     | fail)
    have HS4:=hide (HS.out.next (fun k hk=>(HBl.out k hk).1) HBX.out.1 HBX.out.2.2)
    go_roundw
    case rel=>exact⟨i+1,v3,by omega,by go_num,HS4⟩
    case measure=>simp[intOf];omega
   ·obtain rfl:i=ps.length:=by omega
    rw[List.take_length] at HS
    have HF:=hide (HS.out.fin HBl.out HT0.out)
    have hTr:=(HS.out.bel.block T hTl).trans HT0.out
    have z1:=cell_of_row _ T 1 _ _ (0,0) hTr
    have z2:=cell_of_row _ T 2 _ _ (0,0) hTr
    have zf1:=frozen_of_row _ T 1 _ _ hTr
    have zf2:=frozen_of_row _ T 2 _ _ hTr
    have x0:wr.cell? ⟨w.heap.size,0,none⟩=some u:=cell_of_row _ _ 0 _ _ (0,0) HS.out.box
    have x1:wr.cell? ⟨w.heap.size,1,none⟩=some (.string e0):=cell_of_row _ _ 1 _ _ (0,0) HS.out.box
    simp only[List.getElem?_toArray,List.getElem?_cons_zero,List.getElem?_cons_succ] at z1 z2
    clear hTr
    rcases HNd.out with rfl|⟨tu,bu,rfl⟩
    ·go_wp2
     go_ret
     exact⟨rfl,HF.out.1,HF.out.2⟩
    ·unfold ptr at *
     go_wp2
     go_ret
     exact⟨rfl,HF.out.1,HF.out.2⟩
theorem changeK_any (Hk:Nd→ByteArray→Prop)(ok:Nat→Prop)(T bx:Nat)(st:Value)(n:Nd)(ao:Option Addr)(cap:Nat)(ps:List ByteArray)(w:World)(hA:TreeAt Hk ok w T st n)(hO:TOk n)(hbx:w.heap[bx]? = some (.cells #[ptr T] 104 (0,0)))(hm:Kys w ao ps)(hb:∀p∈ps,p.size≤64)(hl:ps.length≤10000000000000) :
  Calls Tryz.prog 119 #[ptr T,.slice ao ps.length cap,.func (.func 120) #[] #[ptr bx]] w fun e w' => e=.returned (.int .i64 0)∧Only T w w' ∧ TreeAt Hk (okTo ok w w') w' T st (dropAll n ps):=by
 have hTl:=hA.lt
 have HBl:=hide hA.blk
 obtain⟨u0,hT0,hn0⟩:=hA.held
 have hst:w.cell? ⟨T,0,none⟩=some st:=cell_of_row _ _ 0 _ _ (0,0) hT0
 have HT0:=hide hT0
 have HM:=hide hm
 have HO:Hid (∀i,TOk (dropAll n (ps.take i))):=fun i=>hO.dropAll _ (fun p hp=>hb p (List.mem_of_mem_take hp))
 have hbl:=(aGe.1 hbx).1
 have HSt:Hid (∀(i:Nat) (u:Value) (W:World),i<ps.length→w.heap.size+1≤W.heap.size→Below w.heap.size w W→NdAt Hk (fun k=>ok k∨w.heap.size+1≤k) W (dropAll n (ps.take i)) u→Calls Tryz.prog 120 #[.agg #[u,.string e0],.string (ps.getD i e0),ptr bx] W fun e w' => ∃v', e=.returned (.tuple #[.agg #[v', .string e0],.int .i64 0])∧isNd v' ∧ NdAt Hk (fun k=>ok k∨w.heap.size+1≤k) w' (dropAll n (ps.take (i+1))) v' ∧ Below W.heap.size W w'):=fun i u W hi hz hW hnu=>by
  have hin:=hb _ (getD_in (d:=e0) hi)
  refine (delStep Hk (fun k=>(ok k∨w.heap.size+1≤k)∧k<W.heap.size) T bx st _ u _ W (fun k hk=>hk.2) (NdAt.both _ _ hnu (NdAt.lt _ _ hnu)) (HO.out i) hin ((hW.block bx hbl).trans hbx) ((hW.cell (p:=⟨T,0,none⟩) hTl).trans hst)).mono ?_
  rintro e w' ⟨v', rfl,h1,h2⟩
  refine⟨v', rfl,h1.isNd,?_,h2⟩
  rw[dropAll_snoc n ps i hi]
  refine NdAt.mono (fun k hk=>?_) _ _ h1
  rcases hk with⟨hk,_⟩|hk
  ·exact hk
  ·exact .inr (by omega)
 clear hb hO hm hst
 have hnd0:=hn0.isNd
 have c1:w.cell? ⟨T,1,none⟩=some u0:=cell_of_row _ _ 1 _ _ (0,0) hT0
 have c2:w.cell? ⟨T,2,none⟩=some (.string e0):=cell_of_row _ _ 2 _ _ (0,0) hT0
 have HOne:=hide (ref_one hnd0 e0)
 have HS0:Hid (∀zs,ChS Hk ok w n u0 ((w.alloc (.cells zs 65)).setRow w.heap.size #[u0,.string e0])):=fun zs=>by
  obtain⟨h1,h2,h3⟩:=boxNew w zs #[u0,.string e0] 65
  exact⟨h2,NdAt.mono (fun k hk=>.inl hk) _ _ (hn0.keep h1),h1⟩
 clear hn0 hT0 hbx
 rcases hnd0 with rfl|⟨t0,b0,rfl⟩
 ·unfold ptr at *
  go_enter Tryz.func119,Tryz.ntmps119
  go_wp2_with (first
   | (refine wpList_store_row rfl 65 (.tmp 7) (.tmp 15) rfl w.heap.size _ rfl rfl 65 _ (heap_alloc_new w _) (sizeRef _ _) rfl HOne.out ?_)
   | fail)
  have HSS:=hide (HS0.out #[.nilIface,.string ⟨#[]⟩])
  generalize World.setRow _ _ _=W1 at *
  clear c1 c2 HOne HS0
  go_loopw [18] (fun iv wr=>∃(i:Nat) (u:Value),i≤ps.length∧iv=.int .i64 (i:Int)∧Hid (ChS Hk ok w (dropAll n (ps.take i)) u wr)) (fun iv _=>ps.length - (intOf iv).toNat)
  case atStart=>exact⟨0,_,by omega,rfl,HSS⟩
  case round =>
   obtain⟨i,u,hi,rfl,HS⟩:=hrel
   have HNd:=hide HS.out.node.isNd
   by_cases hlt:i<ps.length
   ·have j0:(0:Int)≤(i:Int):=by omega
    have j1:(i:Int)<(ps.length:Int):=by omega
    obtain⟨g,o,rfl,e1⟩:=HM.out.keep HS.out.bel i hlt
    have HSi:=hide (HSt.out i u)
    generalize ps.getD i e0=x at *
    have HWb:Hid (Below wr.heap.size wr wr):=Below.refl _ _
    have HR:Hid (wr.heap[w.heap.size]? = some (.cells #[u,.string e0] 65 (0,0))):=HS.out.box
    have HC1:=hide (HSi.out wr hlt (by have:=(aGe.1 HS.out.box).1;omega) HS.out.bel HS.out.node)
    have HOne:=hide (ref_one HNd.out e0)
    go_wp2_with (first
     | (refine wpList_load_row rfl 65 (.tmp 7) rfl w.heap.size rfl 65 _ (0,0) _ HR.out Tryz.underlying65 rfl (sizeRef _ _) ?_)
     | fail)
    refine HC1.out.mono ?_
    rintro e w3 ⟨v3,rfl,hnd3,hn3,hb3⟩
    have HOne3:=hide (ref_one hnd3 e0)
    have HN3:=hide hn3
    have HB3:Hid (Below wr.heap.size wr w3):=HWb.out.trans (hb3.mono HWb.out.size)
    clear hnd3 hn3 hb3
    have HBx:Hid (∀zs,Below wr.heap.size wr ((w3.alloc (.cells zs 65)).setRow w3.heap.size #[v3,.string e0])∧((w3.alloc (.cells zs 65)).setRow w3.heap.size #[v3,.string e0]).heap[w3.heap.size]? = some (.cells #[v3,.string e0] 65 (0,0))∧NdAt Hk (fun k=>ok k∨w.heap.size+1≤k) ((w3.alloc (.cells zs 65)).setRow w3.heap.size #[v3,.string e0]) (dropAll n (ps.take (i+1))) v3):=fun zs=>by
     obtain⟨h1,h2,h3⟩:=boxNew w3 zs #[v3,.string e0] 65
     exact⟨HB3.out.trans (h1.mono HB3.out.size),h2,HN3.out.keep h1⟩
    go_wp2_with (first
     | (refine wpList_store_row rfl 65 (.tmp 10) (.tmp 27) rfl w3.heap.size _ rfl rfl 65 _ (heap_alloc_new w3 _) (sizeRef _ _) rfl HOne3.out ?_;have HBX:=hide (HBx.out #[.nilIface,.string ⟨#[]⟩]);generalize World.setRow (World.alloc w3 _) _ _=X at *)
     | (refine wpList_load_row rfl 65 (.tmp 10) rfl w3.heap.size rfl 65 _ (0,0) _ HBX.out.2.1 Tryz.underlying65 rfl (sizeRef _ _) ?_)
     | (refine wpList_store_row rfl 65 (.tmp 7) (.tmp 32) rfl w.heap.size _ rfl rfl 65 _ ((HBX.out.1.block _ (aGe.1 HS.out.box).1).trans HS.out.box) (sizeRef _ _) rfl HOne3.out ?_)
     | fail)
    have HS4:=hide (HS.out.next (fun k hk=>(HBl.out k hk).1) HBX.out.1 HBX.out.2.2)
    go_roundw
    case rel=>exact⟨i+1,v3,by omega,by go_num,HS4⟩
    case measure=>simp[intOf];omega
   ·obtain rfl:i=ps.length:=by omega
    rw[List.take_length] at HS
    have HF:=hide (HS.out.fin HBl.out HT0.out)
    have hTr:=(HS.out.bel.block T hTl).trans HT0.out
    have z1:=cell_of_row _ T 1 _ _ (0,0) hTr
    have z2:=cell_of_row _ T 2 _ _ (0,0) hTr
    have zf1:=frozen_of_row _ T 1 _ _ hTr
    have zf2:=frozen_of_row _ T 2 _ _ hTr
    have x0:wr.cell? ⟨w.heap.size,0,none⟩=some u:=cell_of_row _ _ 0 _ _ (0,0) HS.out.box
    have x1:wr.cell? ⟨w.heap.size,1,none⟩=some (.string e0):=cell_of_row _ _ 1 _ _ (0,0) HS.out.box
    simp only[List.getElem?_toArray,List.getElem?_cons_zero,List.getElem?_cons_succ] at z1 z2
    clear hTr
    rcases HNd.out with rfl|⟨tu,bu,rfl⟩
    ·go_wp2
     go_ret
     exact⟨rfl,HF.out.1,HF.out.2⟩
    ·unfold ptr at *
     go_wp2
     go_ret
     exact⟨rfl,HF.out.1,HF.out.2⟩
 ·unfold ptr at *
  go_enter Tryz.func119,Tryz.ntmps119
  go_wp2_with (first
   | (refine wpList_store_row rfl 65 (.tmp 7) (.tmp 15) rfl w.heap.size _ rfl rfl 65 _ (heap_alloc_new w _) (sizeRef _ _) rfl HOne.out ?_)
   | fail)
  have HSS:=hide (HS0.out #[.nilIface,.string ⟨#[]⟩])
  generalize World.setRow _ _ _=W1 at *
  clear c1 c2 HOne HS0
  go_loopw [18] (fun iv wr=>∃(i:Nat) (u:Value),i≤ps.length∧iv=.int .i64 (i:Int)∧Hid (ChS Hk ok w (dropAll n (ps.take i)) u wr)) (fun iv _=>ps.length - (intOf iv).toNat)
  case atStart=>exact⟨0,_,by omega,rfl,HSS⟩
  case round =>
   obtain⟨i,u,hi,rfl,HS⟩:=hrel
   have HNd:=hide HS.out.node.isNd
   by_cases hlt:i<ps.length
   ·have j0:(0:Int)≤(i:Int):=by omega
    have j1:(i:Int)<(ps.length:Int):=by omega
    obtain⟨g,o,rfl,e1⟩:=HM.out.keep HS.out.bel i hlt
    have HSi:=hide (HSt.out i u)
    generalize ps.getD i e0=x at *
    have HWb:Hid (Below wr.heap.size wr wr):=Below.refl _ _
    have HR:Hid (wr.heap[w.heap.size]? = some (.cells #[u,.string e0] 65 (0,0))):=HS.out.box
    have HC1:=hide (HSi.out wr hlt (by have:=(aGe.1 HS.out.box).1;omega) HS.out.bel HS.out.node)
    have HOne:=hide (ref_one HNd.out e0)
    go_wp2_with (first
     | (refine wpList_load_row rfl 65 (.tmp 7) rfl w.heap.size rfl 65 _ (0,0) _ HR.out Tryz.underlying65 rfl (sizeRef _ _) ?_)
     | fail)
    refine HC1.out.mono ?_
    rintro e w3 ⟨v3,rfl,hnd3,hn3,hb3⟩
    have HOne3:=hide (ref_one hnd3 e0)
    have HN3:=hide hn3
    have HB3:Hid (Below wr.heap.size wr w3):=HWb.out.trans (hb3.mono HWb.out.size)
    clear hnd3 hn3 hb3
    have HBx:Hid (∀zs,Below wr.heap.size wr ((w3.alloc (.cells zs 65)).setRow w3.heap.size #[v3,.string e0])∧((w3.alloc (.cells zs 65)).setRow w3.heap.size #[v3,.string e0]).heap[w3.heap.size]? = some (.cells #[v3,.string e0] 65 (0,0))∧NdAt Hk (fun k=>ok k∨w.heap.size+1≤k) ((w3.alloc (.cells zs 65)).setRow w3.heap.size #[v3,.string e0]) (dropAll n (ps.take (i+1))) v3):=fun zs=>by
     obtain⟨h1,h2,h3⟩:=boxNew w3 zs #[v3,.string e0] 65
     exact⟨HB3.out.trans (h1.mono HB3.out.size),h2,HN3.out.keep h1⟩
    go_wp2_with (first
     | (refine wpList_store_row rfl 65 (.tmp 10) (.tmp 27) rfl w3.heap.size _ rfl rfl 65 _ (heap_alloc_new w3 _) (sizeRef _ _) rfl HOne3.out ?_;have HBX:=hide (HBx.out #[.nilIface,.string ⟨#[]⟩]);generalize World.setRow (World.alloc w3 _) _ _=X at *)
     | (refine wpList_load_row rfl 65 (.tmp 10) rfl w3.heap.size rfl 65 _ (0,0) _ HBX.out.2.1 Tryz.underlying65 rfl (sizeRef _ _) ?_)
     | (refine wpList_store_row rfl 65 (.tmp 7) (.tmp 32) rfl w.heap.size _ rfl rfl 65 _ ((HBX.out.1.block _ (aGe.1 HS.out.box).1).trans HS.out.box) (sizeRef _ _) rfl HOne3.out ?_)
     | fail)
    have HS4:=hide (HS.out.next (fun k hk=>(HBl.out k hk).1) HBX.out.1 HBX.out.2.2)
    go_roundw
    case rel=>exact⟨i+1,v3,by omega,by go_num,HS4⟩
    case measure=>simp[intOf];omega
   ·obtain rfl:i=ps.length:=by omega
    rw[List.take_length] at HS
    have HF:=hide (HS.out.fin HBl.out HT0.out)
    have hTr:=(HS.out.bel.block T hTl).trans HT0.out
    have z1:=cell_of_row _ T 1 _ _ (0,0) hTr
    have z2:=cell_of_row _ T 2 _ _ (0,0) hTr
    have zf1:=frozen_of_row _ T 1 _ _ hTr
    have zf2:=frozen_of_row _ T 2 _ _ hTr
    have x0:wr.cell? ⟨w.heap.size,0,none⟩=some u:=cell_of_row _ _ 0 _ _ (0,0) HS.out.box
    have x1:wr.cell? ⟨w.heap.size,1,none⟩=some (.string e0):=cell_of_row _ _ 1 _ _ (0,0) HS.out.box
    simp only[List.getElem?_toArray,List.getElem?_cons_zero,List.getElem?_cons_succ] at z1 z2
    clear hTr
    rcases HNd.out with rfl|⟨tu,bu,rfl⟩
    ·go_wp2
     go_ret
     exact⟨rfl,HF.out.1,HF.out.2⟩
    ·unfold ptr at *
     go_wp2
     go_ret
     exact⟨rfl,HF.out.1,HF.out.2⟩
theorem Only.of_below {T:Nat}{w w' : World}(h:Below w.heap.size w w'):Only T w w' := ⟨h.os,h.tape,h.output,h.size,fun k hk _=>h.block k hk⟩
theorem Only.trans {T:Nat}{w w1 w2:World}(h:Only T w w1)(h2:Only T w1 w2):Only T w w2:=⟨h2.os.trans h.os,h2.tape.trans h.tape,h2.output.trans h.output,Nat.le_trans h.size h2.size,fun k hk hne=>(h2.block k (Nat.lt_of_lt_of_le hk h.size) hne).trans (h.block k hk hne)⟩
theorem TreeAt.wide {Hk:Nd→ByteArray→Prop}{ok:Nat→Prop}{w W w' : World}{T:Nat}{st:Value}{n:Nd}(h:TreeAt Hk (okTo ok W w') w' T st n)(hT:T<w.heap.size)(hb:w.heap.size≤W.heap.size)(hok:∀k,ok k→k<w.heap.size∧k≠T)(hs:W.heap.size≤w'.heap.size):TreeAt Hk (okTo ok w w') w' T st n:=by
 refine h.mono (fun k hk=>?_) (fun k hk=>?_)
 ·rcases hk with hk|hk
  ·exact .inl hk
  ·exact .inr ⟨by omega,hk.2⟩
 ·rcases hk with hk|hk
  ·have:=hok k hk;exact⟨by omega,this.2⟩
  ·exact⟨hk.2,by omega⟩
def ChPost (Hk:Nd→ByteArray→Prop)(ok:Nat→Prop)(T:Nat)(st:Value)(n:Nd)(w:World)(e:Ending)(w' : World):Prop:=e=.returned (.int .i64 0)∧Only T w w' ∧ TreeAt Hk (okTo ok w w') w' T st n
theorem tPut_any (Hk:Nd→ByteArray→Prop)(hnn:∀n g,Hk n g→n≠.nil)(ok:Nat→Prop)(T:Nat)(st:Value)(n:Nd)(ao:Option Addr)(cap:Nat)(ps:List Pr)(w:World)(hA:TreeAt Hk ok w T st n)(hO:TOk n)(hm:Prs w ao ps)(hb:∀p∈ps,p.1.size≤64∧p.2.size≤400)(hl:ps.length≤10000000000000) :
  Calls Tryz.prog 18 #[ptr T,.slice ao ps.length cap] w fun e w' => ChPost Hk ok T st (setAll n ps) w e w' := by
 have HA:=hide hA
 have HM:=hide hm
 have HB:=hide hb
 have HTl:=hide hA.lt
 have HCh:Hid (∀W,Below w.heap.size w W→W.heap[w.heap.size]? = some (.cells #[ptr T] 104 (0,0))→Calls Tryz.prog 41 #[ptr T,.slice ao ps.length cap,.func (.func 42) #[] #[ptr w.heap.size]] W fun e w' => ChPost Hk ok T st (setAll n ps) w e w'):=fun W hW hbx=>by
  refine (changeP_any Hk hnn ok T w.heap.size st n ao cap ps W (hA.keep hW) hO hbx (hm.keep hW) hb hl).mono ?_
  rintro e w' ⟨rfl,h1,h2⟩
  exact⟨rfl,(Only.of_below hW).trans h1,h2.wide hA.lt hW.size hA.blk h1.size⟩
 have HB0:Hid (Below w.heap.size w (w.alloc (.cells #[ptr T] 104))∧(w.alloc (.cells #[ptr T] 104)).heap[w.heap.size]? = some (.cells #[ptr T] 104 (0,0))):=⟨below_alloc _ _,heap_alloc_new w _⟩
 clear hA hO hm hb
 unfold ptr at *
 go_enter Tryz.func18,Tryz.ntmps18
 go_wp2_with fail
 generalize World.alloc w _=W0 at *
 go_loopw [11] (fun iv wr=>∃i:Nat,i≤ps.length∧iv=.int .i64 (i:Int)∧Hid (Below W0.heap.size W0 wr)) (fun iv _=>ps.length - (intOf iv).toNat)
 case atStart=>exact⟨0,by omega,rfl,Below.refl _ _⟩
 case round =>
  obtain⟨i,hi,rfl,HW⟩:=hrel
  by_cases hlt:i<ps.length
  ·have j0:(0:Int)≤(i:Int):=by omega
   have j1:(i:Int)<(ps.length:Int):=by omega
   obtain⟨g,o,rfl,e1,e2⟩:=(HM.out.keep HB0.out.1).keep HW.out i hlt
   have hin:=HB.out _ (getD_in (d:=pr0) hlt)
   generalize ps.getD i pr0=x at *
   obtain⟨xk,xv⟩:=x
   simp only at e1 e2 hin
   have k1:(xk.size:Int)≤64:=by omega
   have HW2:Hid (Below W0.heap.size W0 (wr.alloc (.cells #[.string xk,.string xv] 33))):=HW.out.alloc HW.out.size _
   clear hin
   go_wp2
   go_roundw
   case rel=>exact⟨i+1,by omega,by go_num,HW2⟩
   case measure=>simp[intOf];omega
  ·obtain rfl:i=ps.length:=by omega
   have HBW:Hid (Below w.heap.size w wr∧wr.heap[w.heap.size]? = some (.cells #[.pointer (some ⟨T,0,none⟩)] 104 (0,0))):=⟨HB0.out.1.trans (HW.out.mono HB0.out.1.size),(HW.out.block _ (aGe.1 HB0.out.2).1).trans HB0.out.2⟩
   obtain⟨W1,rfl⟩:∃W1:World,W1=wr:=⟨_,rfl⟩
   clear HW
   go_wp2_with fail
   go_loopw [22] (fun iv wr=>∃i:Nat,i≤ps.length∧iv=.int .i64 (i:Int)∧Hid (Below W1.heap.size W1 wr)) (fun iv _=>ps.length - (intOf iv).toNat)
   case atStart=>exact⟨0,by omega,rfl,Below.refl _ _⟩
   case round =>
    obtain⟨i,hi,rfl,HW⟩:=hrel
    by_cases hlt:i<ps.length
    ·have j0:(0:Int)≤(i:Int):=by omega
     have j1:(i:Int)<(ps.length:Int):=by omega
     obtain⟨g,o,rfl,e1,e2⟩:=(HM.out.keep HBW.out.1).keep HW.out i hlt
     have hin:=HB.out _ (getD_in (d:=pr0) hlt)
     generalize ps.getD i pr0=x at *
     obtain⟨xk,xv⟩:=x
     simp only at e1 e2 hin
     have k1:(xv.size:Int)≤400:=by omega
     have HW2:Hid (Below W1.heap.size W1 (wr.alloc (.cells #[.string xk,.string xv] 33))):=HW.out.alloc HW.out.size _
     clear hin
     go_wp2
     go_roundw
     case rel=>exact⟨i+1,by omega,by go_num,HW2⟩
     case measure=>simp[intOf];omega
    ·obtain rfl:i=ps.length:=by omega
     have HBV:Hid (Below w.heap.size w wr∧wr.heap[w.heap.size]? = some (.cells #[.pointer (some ⟨T,0,none⟩)] 104 (0,0))):=⟨HBW.out.1.trans (HW.out.mono HBW.out.1.size),(HW.out.block _ (aGe.1 HBW.out.2).1).trans HBW.out.2⟩
     have cb:wr.cell? ⟨w.heap.size,0,none⟩=some (.pointer (some ⟨T,0,none⟩)):=cell_of_row _ _ 0 _ _ (0,0) HBV.out.2
     have HCC:=hide (HCh.out wr HBV.out.1 HBV.out.2)
     go_wp2_with fail
     refine HCC.out.mono ?_
     rintro e w5 ⟨rfl,h1,h2⟩
     have HX:=hide (And.intro h1 h2)
     clear h1 h2
     go_wp2
     go_ret
     exact⟨rfl,HX.out.1,HX.out.2⟩
theorem tDelete_any (Hk:Nd→ByteArray→Prop)(ok:Nat→Prop)(T:Nat)(st:Value)(n:Nd)(ao:Option Addr)(cap:Nat)(ps:List ByteArray)(w:World)(hA:TreeAt Hk ok w T st n)(hO:TOk n)(hm:Kys w ao ps)(hb:∀p∈ps,p.size≤64)(hl:ps.length≤10000000000000) :
  Calls Tryz.prog 96 #[ptr T,.slice ao ps.length cap] w fun e w' => ChPost Hk ok T st (dropAll n ps) w e w' := by
 have HM:=hide hm
 have HB:=hide hb
 have HCh:Hid (∀W,Below w.heap.size w W→W.heap[w.heap.size]? = some (.cells #[ptr T] 104 (0,0))→Calls Tryz.prog 119 #[ptr T,.slice ao ps.length cap,.func (.func 120) #[] #[ptr w.heap.size]] W fun e w' => ChPost Hk ok T st (dropAll n ps) w e w'):=fun W hW hbx=>by
  refine (changeK_any Hk ok T w.heap.size st n ao cap ps W (hA.keep hW) hO hbx (hm.keep hW) hb hl).mono ?_
  rintro e w' ⟨rfl,h1,h2⟩
  exact⟨rfl,(Only.of_below hW).trans h1,h2.wide hA.lt hW.size hA.blk h1.size⟩
 have HB0:Hid (Below w.heap.size w (w.alloc (.cells #[ptr T] 104))∧(w.alloc (.cells #[ptr T] 104)).heap[w.heap.size]? = some (.cells #[ptr T] 104 (0,0))):=⟨below_alloc _ _,heap_alloc_new w _⟩
 clear hA hO hm hb
 unfold ptr at *
 go_enter Tryz.func96,Tryz.ntmps96
 go_wp2_with fail
 generalize World.alloc w _=W0 at *
 go_loopw [9] (fun iv wr=>∃i:Nat,i≤ps.length∧iv=.int .i64 (i:Int)∧Hid (Below W0.heap.size W0 wr)) (fun iv _=>ps.length - (intOf iv).toNat)
 case atStart=>exact⟨0,by omega,rfl,Below.refl _ _⟩
 case round =>
  obtain⟨i,hi,rfl,HW⟩:=hrel
  by_cases hlt:i<ps.length
  ·have j0:(0:Int)≤(i:Int):=by omega
   have j1:(i:Int)<(ps.length:Int):=by omega
   obtain⟨g,o,rfl,e1⟩:=(HM.out.keep HB0.out.1).keep HW.out i hlt
   have hin:=HB.out _ (getD_in (d:=e0) hlt)
   generalize ps.getD i e0=x at *
   have k1:(x.size:Int)≤64:=by omega
   clear hin
   go_wp2
   go_roundw
   case rel=>exact⟨i+1,by omega,by go_num,HW⟩
   case measure=>simp[intOf];omega
  ·obtain rfl:i=ps.length:=by omega
   have HBV:Hid (Below w.heap.size w wr∧wr.heap[w.heap.size]? = some (.cells #[.pointer (some ⟨T,0,none⟩)] 104 (0,0))):=⟨HB0.out.1.trans (HW.out.mono HB0.out.1.size),(HW.out.block _ (aGe.1 HB0.out.2).1).trans HB0.out.2⟩
   have cb:wr.cell? ⟨w.heap.size,0,none⟩=some (.pointer (some ⟨T,0,none⟩)):=cell_of_row _ _ 0 _ _ (0,0) HBV.out.2
   have HCC:=hide (HCh.out wr HBV.out.1 HBV.out.2)
   go_wp2_with fail
   refine HCC.out.mono ?_
   rintro e w5 ⟨rfl,h1,h2⟩
   have HX:=hide (And.intro h1 h2)
   clear h1 h2
   go_wp2
   go_ret
   exact⟨rfl,HX.out.1,HX.out.2⟩
theorem cPut_any (Hk:Nd→ByteArray→Prop)(hnn:∀n g,Hk n g→n≠.nil)(ok:Nat→Prop)(T:Nat)(st:Value)(n:Nd)(ao:Option Addr)(cap:Nat)(ps:List Pr)(w:World)(hA:TreeAt Hk ok w T st n)(hO:TOk n)(hm:Prs w ao ps)(hb:∀p∈ps,p.1.size≤64∧p.2.size≤400)(hl:ps.length≤10000000000000) :
  Calls Tryz.prog 10 #[ptr T,.slice ao ps.length cap] w fun e w' => ChPost Hk ok T st (setAll n ps) w e w' := by
 have HP:=hide (tPut_any Hk hnn ok T st n ao cap ps w hA hO hm hb hl)
 clear hA hO hm hb
 unfold ptr at *
 go_enter Tryz.func10,Tryz.ntmps10
 go_wp2_with fail
 refine HP.out.mono ?_
 rintro e w5 ⟨rfl,h1,h2⟩
 have HX:=hide (And.intro h1 h2)
 clear h1 h2
 go_wp2
 go_ret
 exact⟨rfl,HX.out.1,HX.out.2⟩
theorem cDelete_any (Hk:Nd→ByteArray→Prop)(ok:Nat→Prop)(T:Nat)(st:Value)(n:Nd)(ao:Option Addr)(cap:Nat)(ps:List ByteArray)(w:World)(hA:TreeAt Hk ok w T st n)(hO:TOk n)(hm:Kys w ao ps)(hb:∀p∈ps,p.size≤64)(hl:ps.length≤10000000000000) :
  Calls Tryz.prog 59 #[ptr T,.slice ao ps.length cap] w fun e w' => ChPost Hk ok T st (dropAll n ps) w e w' := by
 have HP:=hide (tDelete_any Hk ok T st n ao cap ps w hA hO hm hb hl)
 clear hA hO hm hb
 unfold ptr at *
 go_enter Tryz.func59,Tryz.ntmps59
 go_wp2_with fail
 refine HP.out.mono ?_
 rintro e w5 ⟨rfl,h1,h2⟩
 have HX:=hide (And.intro h1 h2)
 clear h1 h2
 go_wp2
 go_ret
 exact⟨rfl,HX.out.1,HX.out.2⟩
theorem gotE_form (A:ByteArray):∃(s:ByteArray) (er:Int),gotE A=.returned (.tuple #[.string s,.int .i64 er])∧(s=e0∨s=A):=by
 unfold gotE
 split
 ·exact⟨e0,10,rfl,.inl rfl⟩
 ·exact⟨A,0,rfl,.inr rfl⟩
theorem tGet_any (Hk:Nd→ByteArray→Prop)(ok:Nat→Prop)(T:Nat)(st:Value)(n:Nd)(key:ByteArray)(w:World)(hA:TreeAt Hk ok w T st n)(hO:TOk n)(hk:key.size≤64) :
  Calls Tryz.prog 73 #[ptr T,.string key] w fun e w' => e=gotE (n.look (pathN key))∧Below w.heap.size w w' := by
 have hTl:=hA.lt
 have hok:=hA.blk
 obtain⟨u,hT,hn⟩:=hA.held
 have HC:Hid (∀W,Below w.heap.size w W→W.cell? ⟨T,0,none⟩=some st∧W.cell? ⟨T,1,none⟩=some u∧W.cell? ⟨T,2,none⟩=some (.string e0)):=fun W hW=>by
  have h:=(hW.block T hTl).trans hT
  exact⟨cell_of_row _ _ 0 _ _ (0,0) h,cell_of_row _ _ 1 _ _ (0,0) h,cell_of_row _ _ 2 _ _ (0,0) h⟩
 have HOf:Hid (∀W,Below w.heap.size w W→Calls Tryz.prog 44 #[.string key] W fun e w' => ∃g,e=.returned (.slice (some ⟨g,0,none⟩) (pathN key).length (2 * key.size))∧Nums w' (some ⟨g,0,none⟩) (pathN key)∧Below w.heap.size w w'):=fun W hW=>by
  refine (of_nums key W (by omega)).mono ?_
  rintro e w' ⟨g,rfl,h1,_,h2⟩
  exact⟨g,rfl,h1,hW.trans (h2.mono hW.size)⟩
 obtain⟨s,er,hE,hs⟩:=gotE_form (n.look (pathN key))
 have HG:Hid (∀W g,Below w.heap.size w W→Nums W (some ⟨g,0,none⟩) (pathN key)→Calls Tryz.prog 77 #[.func (.func 78) #[st] #[],.agg #[u,.string e0],.slice (some ⟨g,0,none⟩) (pathN key).length (2 * key.size)] W fun e w' => e=.returned (.tuple #[.string s,.int .i64 er])∧Below w.heap.size w w'):=fun W g hW hnu=>by
  refine (get_any Hk ok st n u e0 g 0 (2 * key.size) (pathN key) W (fun k hk=>Nat.lt_of_lt_of_le (hok k hk).1 hW.size) (hn.keep hW) (fun _=>rfl) hO.wf hnu (by rw[pathN_length];exact Nat.le_refl _) (by rw[pathN_length];omega) (pathN_lt key) (Len_mono n hO.len (by omega))).mono ?_
  rintro e w' ⟨rfl,h2⟩
  exact⟨hE,hW.trans (h2.mono hW.size)⟩
 have HSz:Hid (s.size≤400):=by
  rcases hs with rfl|rfl
  ·show 0≤400;omega
  ·exact hO.vb _
 have HE:=hide hE
 have hnd:=hn.isNd
 have k1:(key.size:Int)≤64:=by omega
 obtain⟨c0,c1,c2⟩:=HC.out w (Below.refl _ _)
 clear hA hO hn hT hE hs hok
 rcases hnd with rfl|⟨t,b,rfl⟩
 ·unfold ptr at *
  go_enter Tryz.func73,Tryz.ntmps73
  go_wp2_with fail
  go_region_held3 (fun W=>W.cell? ⟨T,0,none⟩=some st∧W.cell? ⟨T,1,none⟩=some .nilIface∧W.cell? ⟨T,2,none⟩=some (.string e0)) (first|go_keep|(simp[*])) ((first
   | (go_at_call 44;refine (HOf.out _ (by first|exact (Below.refl _ _).drew|exact Below.refl _ _)).mono ?_;rintro e w2 ⟨g,rfl,hnu,hb2⟩;(have HN2:=hide hnu);(have HB2:=hide hb2);(obtain⟨d0,d1,d2⟩:=HC.out w2 hb2);clear hnu hb2)
   | (go_at_call 77;refine (HG.out _ g HB2.out HN2.out).mono ?_;rintro e w3 ⟨rfl,hb3⟩;(have HB3:=hide hb3);(obtain⟨i0,i1,i2⟩:=HC.out w3 hb3);clear hb3)))
  all_goals
   go_wp2_with fail
   refine (clone_any s _ (by have:=HSz.out;omega)).mono ?_
   rintro e w4 ⟨rfl,hb4⟩
   go_wp2
   go_ret2
   exact⟨HE.out.symm,by first|exact HB3.out.trans (hb4.mono HB3.out.size)|exact HB3.out.drew.trans (hb4.mono HB3.out.drew.size)⟩
 ·unfold ptr at *
  go_enter Tryz.func73,Tryz.ntmps73
  go_wp2_with fail
  go_region_held3 (fun W=>W.cell? ⟨T,0,none⟩=some st∧W.cell? ⟨T,1,none⟩=some (.iface t (.pointer (some ⟨b,0,none⟩)))∧W.cell? ⟨T,2,none⟩=some (.string e0)) (first|go_keep|(simp[*])) ((first
   | (go_at_call 44;refine (HOf.out _ (by first|exact (Below.refl _ _).drew|exact Below.refl _ _)).mono ?_;rintro e w2 ⟨g,rfl,hnu,hb2⟩;(have HN2:=hide hnu);(have HB2:=hide hb2);(obtain⟨d0,d1,d2⟩:=HC.out w2 hb2);clear hnu hb2)
   | (go_at_call 77;refine (HG.out _ g HB2.out HN2.out).mono ?_;rintro e w3 ⟨rfl,hb3⟩;(have HB3:=hide hb3);(obtain⟨i0,i1,i2⟩:=HC.out w3 hb3);clear hb3)))
  all_goals
   go_wp2_with fail
   refine (clone_any s _ (by have:=HSz.out;omega)).mono ?_
   rintro e w4 ⟨rfl,hb4⟩
   go_wp2
   go_ret2
   exact⟨HE.out.symm,by first|exact HB3.out.trans (hb4.mono HB3.out.size)|exact HB3.out.drew.trans (hb4.mono HB3.out.drew.size)⟩
theorem cGet_any (Hk:Nd→ByteArray→Prop)(ok:Nat→Prop)(T:Nat)(st:Value)(n:Nd)(key:ByteArray)(w:World)(hA:TreeAt Hk ok w T st n)(hO:TOk n)(hk:key.size≤64) :
  Calls Tryz.prog 34 #[ptr T,.string key] w fun e w' => e=gotE (n.look (pathN key))∧Below w.heap.size w w' := by
 have HP:=hide (tGet_any Hk ok T st n key w hA hO hk)
 obtain⟨s,er,hE,_⟩:=gotE_form (n.look (pathN key))
 rw[hE] at HP ⊢
 clear hA hO hE
 unfold ptr at *
 go_enter Tryz.func34,Tryz.ntmps34
 go_wp2_with fail
 refine HP.out.mono ?_
 rintro e w5 ⟨rfl,h1⟩
 go_wp2
 go_ret2
 exact⟨rfl,h1⟩
theorem num_any (z:Int)(w:World):Calls Tryz.prog 26 #[.int .i64 z] w fun e w' => e=.returned (.int .i64 z)∧w' = w:=by
 go_enter Tryz.func26,Tryz.ntmps26
 go_wp2
 go_ret
 exact⟨rfl,rfl⟩
end Go.Proofs.YthdjmldddjljfaaGreatDoor
