/-
  OUR OWN.
-/
import Derived.Test.YthdjmldddjljfaaGreatDoorG46
import Derived.Test.YthdjmldddjljfaaGreatDoorG47
set_option maxHeartbeats 8000000
set_option maxRecDepth 20000
namespace Go.Proofs.YthdjmldddjljfaaGreatDoor
open Go.RowKit
theorem RT.same {w w' : World}{T:Nat}{S lv:Value}{n:Nd}(h:RT w T S lv n)(hR:w'.heap[T]? = w.heap[T]?)(hs:∀(k:Nat) (cs:Array Value) (t:TypeId) (fr:Nat×Nat),(t=118∨t=3)→w.heap[k]? = some (.cells cs t fr)→w'.heap[k]? = some (.cells cs t fr)):RT w' T S lv n:=by
 obtain⟨L,hp,hl⟩:=h.list
 refine⟨hR.trans h.box,L,hp,hl.imp id (fun h=>⟨h.1,?_⟩)⟩
 obtain⟨css,h1,h2⟩:=h.2
 refine⟨css,own_far h1 (fun g hg _=>?_),h2.mono (fun _ _ h=>h.keep (fun g cur hg=>hs g _ _ _ (.inr rfl) hg))⟩
 obtain⟨_,cur,hc⟩:=ownsRow_type h1 g hg
 rw[hc]
 exact hs g _ _ _ (.inl rfl) hc
structure Duo (ok:Nat→Prop)(w:World)(T R:Nat)(st S lv:Value)(n:Nd):Prop where
 tree:TreeAt HkC ok w T st n
 ref:RT w R S lv n
 tok:TOk n
 keys:KeysOk (n.flat [])
theorem Duo.keep {ok:Nat→Prop}{w w' : World}{T R:Nat}{st S lv:Value}{n:Nd}(h:Duo ok w T R st S lv n)(hb:Below w.heap.size w w'):Duo ok w' T R st S lv n:=⟨h.tree.keep hb,h.ref.keep hb,h.tok,h.keys⟩
theorem Only.ex {T:Nat}{w w' : World}(h:Only T w w'):Ex (fun j=>j=T) w w' := ⟨h.os,h.tape,h.output,h.size,fun k hk hx=>h.block k hk (fun e=>hx (by injection e))⟩
def putN (n:Nd)(ps:List Pr):Nd:=if putErr ps=0 then setAll n ps else n
theorem putN_ok {n:Nd}(hO:TOk n)(hk:KeysOk (n.flat []))(ps:List Pr):TOk (putN n ps)∧KeysOk ((putN n ps).flat [])∧((putN n ps).flat []).length≤(n.flat []).length+ps.length:=by
 unfold putN
 by_cases h:putErr ps=0
 ·rw[if_pos h]
  have hf:=putErr_fits.1 h
  exact⟨hO.setAll ps hf,hk.setAll hO ps hf,setAll_len hO ps hf⟩
 ·rw[if_neg h]
  exact⟨hO,hk,by omega⟩
theorem TreeAt.okTo {ok:Nat→Prop}{w w' : World}{T:Nat}{st:Value}{n:Nd}(h:TreeAt HkC ok w T st n)(hb:Below w.heap.size w w'):TreeAt HkC (okTo ok w w') w' T st n :=
 (h.keep hb).mono (fun k hk=>.inl hk) (fun k hk=>by
   rcases hk with hk|hk
   ·exact⟨Nat.lt_of_lt_of_le (h.blk k hk).1 hb.size,(h.blk k hk).2⟩
   ·exact⟨hk.2,by have:=h.lt;omega⟩)
theorem cPut_both (ok:Nat→Prop)(T:Nat)(st:Value)(n:Nd)(ao:Option Addr)(cap:Nat)(ps:List Pr)(w:World)(hA:TreeAt HkC ok w T st n)(hO:TOk n)(hm:Prs w ao ps)(hl:ps.length≤100000000) :
  Calls Tryz.prog 10 #[ptr T,.slice ao ps.length cap] w fun e w' => e=.returned (.int .i64 (putErr ps))∧Ex (fun j=>j=T) w w' ∧ TreeAt HkC (okTo ok w w') w' T st (putN n ps):=by
 unfold putN
 by_cases h:putErr ps=0
 ·rw[if_pos h]
  refine (cPut_any HkC HkC.ne ok T st n ao cap ps w hA hO hm (putErr_fits.1 h) (by omega)).mono ?_
  rintro e w' ⟨rfl,h1,h2⟩
  exact⟨by rw[h],h1.ex,h2⟩
 ·rw[if_neg h]
  refine (cPut_err T ao cap ps w hm h hl).mono ?_
  rintro e w' ⟨rfl,h1⟩
  exact⟨rfl,Ex.of_below h1,hA.okTo h1⟩
theorem rtPut_both (S lv:Value)(R:Nat)(n:Nd)(ao:Option Addr)(cap:Nat)(ps:List Pr)(w:World)(h:RT w R S lv n)(hO:TOk n)(hp:Prs w ao ps)(hl:(n.flat []).length+ps.length≤100000000) :
  Calls Tryz.prog 58 #[.pointer (some ⟨R,0,none⟩),.slice ao ps.length cap] w fun e w' => e=.returned (.int .i64 (putErr ps))∧Ex (fun j=>j=R) w w' ∧ ∃lv', RT w' R S lv' (putN n ps):=by
 unfold putN
 by_cases hE:putErr ps=0
 ·rw[if_pos hE]
  refine (rtPut_fits S lv R n ao cap ps w h hO hp (putErr_fits.1 hE) hl).mono ?_
  rintro e w' ⟨rv,W,rfl,rfl,h1,h2⟩
  exact⟨by rw[hE],(Ex.of_below (X:=fun j=>j=R) h1).set (p:=⟨R,1,none⟩) (.inl rfl) rv,rv,h2⟩
 ·rw[if_neg hE]
  refine (rtPut_long R ao cap ps w hp hE (by omega)).mono ?_
  rintro e w' ⟨rfl,h1⟩
  exact⟨rfl,Ex.of_below h1,lv,h.keep h1⟩
theorem delP_err (ks:List ByteArray):putErr (delP ks)=delErr ks:=by
 unfold putErr delErr delP
 have h1:((ks.map fun k=>(k,(⟨#[]⟩:ByteArray))).any fun p=>decide (64 < p.1.size))=ks.any (fun k=>decide (64 < k.size)):=by
  rw[List.any_map];rfl
 have h2:((ks.map fun k=>(k,(⟨#[]⟩:ByteArray))).any fun p=>decide (400 < p.2.size))=false:=by
  rw[List.any_map]
  rw[List.any_eq_false]
  intro x _
  simp
  exact Nat.zero_le _
 rw[h1,h2]
 simp
theorem delP_len (ks:List ByteArray):(delP ks).length=ks.length:=by unfold delP;rw[List.length_map]
theorem cDel_both (ok:Nat→Prop)(T:Nat)(st:Value)(n:Nd)(ao:Option Addr)(cap:Nat)(ks:List ByteArray)(w:World)(hA:TreeAt HkC ok w T st n)(hO:TOk n)(hm:Kys w ao ks)(hl:ks.length≤100000000) :
  Calls Tryz.prog 59 #[ptr T,.slice ao ks.length cap] w fun e w' => e=.returned (.int .i64 (delErr ks))∧Ex (fun j=>j=T) w w' ∧ TreeAt HkC (okTo ok w w') w' T st (putN n (delP ks)):=by
 unfold putN
 rw[delP_err]
 by_cases h:delErr ks=0
 ·rw[if_pos h,setAll_del]
  refine (cDelete_any HkC ok T st n ao cap ks w hA hO hm (delErr_fits.1 h) (by omega)).mono ?_
  rintro e w' ⟨rfl,h1,h2⟩
  exact⟨by rw[h],h1.ex,h2⟩
 ·rw[if_neg h]
  refine (cDelete_err T ao cap ks w hm h hl).mono ?_
  rintro e w' ⟨rfl,h1⟩
  exact⟨rfl,Ex.of_below h1,hA.okTo h1⟩
theorem rtDel_both (S lv:Value)(R:Nat)(n:Nd)(ao:Option Addr)(cap:Nat)(ks:List ByteArray)(w:World)(h:RT w R S lv n)(hO:TOk n)(hp:Kys w ao ks)(hl:(n.flat []).length+ks.length≤100000000) :
  Calls Tryz.prog 60 #[.pointer (some ⟨R,0,none⟩),.slice ao ks.length cap] w fun e w' => e=.returned (.int .i64 (delErr ks))∧Ex (fun j=>j=R) w w' ∧ ∃lv', RT w' R S lv' (putN n (delP ks)):=by
 refine rtDelete_any _ R ao cap ks w hp (by omega) (fun W bo bc hW hP=>?_) (fun e w' hq=>⟨_,hq.1⟩)
 refine (rtPut_both S lv R n bo bc (delP ks) W (h.keep hW) hO hP (by rw[delP_len];exact hl)).mono ?_
 rintro e w' ⟨rfl,h1,h2⟩
 exact⟨by rw[delP_err],(Ex.of_below hW).trans h1,h2⟩
attribute [local go_sem ↓] Go.wp_at_zero Go.wp_at_succ
theorem samePairs_big (ao bo:Option Addr)(ca cb:Nat)(L:List Pr)(w:World)(ha:Prs w ao L)(hb:Prs w bo L)(hl:L.length≤100000000) :
  Calls Tryz.prog 38 #[.slice ao L.length ca,.slice bo L.length cb] w fun e w' => e=.returned (.bool true)∧Below w.heap.size w w' := by
 have HA:=hide ha
 have HB:=hide hb
 clear ha hb
 go_enter Tryz.func38,Tryz.ntmps38
 go_wp2_with fail
 go_loopw [5] (fun iv wr=>∃i:Nat,i≤L.length∧iv=.int .i64 (i:Int)∧Below w.heap.size w wr) (fun iv _=>L.length - (intOf iv).toNat)
 case atStart=>exact⟨0,by omega,rfl,Below.refl _ _⟩
 case round =>
  obtain⟨i,hi,rfl,hbw⟩:=hrel
  have HBW:=hide hbw
  clear hbw
  have j0:(0:Int)≤(i:Int):=by omega
  by_cases hil:i<L.length
  ·have j1:(i:Int)<(L.length:Int):=by omega
   obtain⟨g1,o1,rfl,x1,x2⟩:=HA.out.keep HBW.out i hil
   obtain⟨g2,o2,rfl,y1,y2⟩:=HB.out.keep HBW.out i hil
   generalize L.getD i pr0=t at *
   go_wp2
   go_quiet (fail)
   go_wp2
   go_roundw
   case rel=>exact⟨i+1,by omega,by go_num,below_drewN HBW.out _⟩
   case measure=>simp[intOf];omega
  ·obtain rfl:i=L.length:=by omega
   go_wp2
   go_ret
   exact⟨rfl,HBW.out⟩
end Go.Proofs.YthdjmldddjljfaaGreatDoor
namespace Go.Proofs.YthdjmldddjljfaaGreatDoor
open Go.RowKit
attribute [local go_sem ↓] Go.wp_at_zero Go.wp_at_succ
def opV (k on:Int)(s:ByteArray)(n:Int)(pv kv:Value):Value:=.agg #[.int .i64 k,.int .i64 on,.string s,.int .i64 n,pv,kv]
def opC (k on:Int)(s:ByteArray)(n:Int)(pv kv:Value):Array Value:=#[.int .i64 k,.int .i64 on,.string s,.int .i64 n,pv,kv]
def ChOut (ok:Nat→Prop)(T R:Nat)(st S:Value)(n' : Nd)(w:World)(e:Ending)(w' : World):Prop:=e=.returned (.bool true)∧Ex (fun j=>j=T∨j=R) w w' ∧ ∃lv' ok', Duo ok' w' T R st S lv' n' ∧ ∀k,ok' k→ok k∨w.heap.size≤k
theorem twoTypes {ok:Nat→Prop}{w:World}{T R:Nat}{st S lv:Value}{n:Nd}(h:Duo ok w T R st S lv n):∀(j:Nat) (cs:Array Value) (t:TypeId) (fr:Nat×Nat),w.heap[j]? = some (.cells cs t fr)→(j=T→t=71)∧(j=R→t=77):=fun j cs t fr hc=>by
 constructor
 ·intro e
  obtain⟨u,h1,_⟩:=h.tree.held
  rw[e,h1] at hc
  injection hc with hc
  injection hc with _ hc _
  exact hc.symm
 ·intro e
  rw[e,h.ref.box] at hc
  injection hc with hc
  injection hc with _ hc _
  exact hc.symm
theorem Duo.ne {ok:Nat→Prop}{w:World}{T R:Nat}{st S lv:Value}{n:Nd}(h:Duo ok w T R st S lv n):T≠R:=fun e=>by
 have:=(twoTypes h R _ _ _ h.ref.box).1 e.symm
 exact absurd this (by decide)
theorem four_blocks (w:World)(a b c d:Array Value)(ta tb tc td:TypeId):Below w.heap.size w ((((w.alloc (.cells a ta)).alloc (.cells b tb)).alloc (.cells c tc)).alloc (.cells d td)) ∧
  ((((w.alloc (.cells a ta)).alloc (.cells b tb)).alloc (.cells c tc)).alloc (.cells d td)).heap[w.heap.size]? = some (.cells a ta (0,0))∧((((w.alloc (.cells a ta)).alloc (.cells b tb)).alloc (.cells c tc)).alloc (.cells d td)).heap[w.heap.size+1]? = some (.cells b tb (0,0))∧((((w.alloc (.cells a ta)).alloc (.cells b tb)).alloc (.cells c tc)).alloc (.cells d td)).heap[w.heap.size+1+1]? = some (.cells c tc (0,0))∧((((w.alloc (.cells a ta)).alloc (.cells b tb)).alloc (.cells c tc)).alloc (.cells d td)).heap[w.heap.size+1+1+1]? = some (.cells d td (0,0)):=by
 have y3:=heap_alloc_new (((w.alloc (.cells a ta)).alloc (.cells b tb)).alloc (.cells c tc)) (.cells d td)
 have y2:=(Below.heap_alloc (((w.alloc (.cells a ta)).alloc (.cells b tb)).alloc (.cells c tc)) (.cells d td) _ (by simp)).trans (heap_alloc_new ((w.alloc (.cells a ta)).alloc (.cells b tb)) (.cells c tc))
 have y1a:((w.alloc (.cells a ta)).alloc (.cells b tb)).heap[w.heap.size+1]? = some (.cells b tb (0,0)):=by
  have h:=heap_alloc_new (w.alloc (.cells a ta)) (.cells b tb)
  rw[World.size_alloc] at h
  exact h
 have y1:=((Below.heap_alloc (((w.alloc (.cells a ta)).alloc (.cells b tb)).alloc (.cells c tc)) (.cells d td) (w.heap.size+1) (by simp)).trans (Below.heap_alloc ((w.alloc (.cells a ta)).alloc (.cells b tb)) (.cells c tc) (w.heap.size+1) (by simp))).trans y1a
 have y0:=(((Below.heap_alloc (((w.alloc (.cells a ta)).alloc (.cells b tb)).alloc (.cells c tc)) (.cells d td) w.heap.size (by simp;omega)).trans (Below.heap_alloc ((w.alloc (.cells a ta)).alloc (.cells b tb)) (.cells c tc) w.heap.size (by simp;omega))).trans (Below.heap_alloc (w.alloc (.cells a ta)) (.cells b tb) w.heap.size (by simp))).trans (heap_alloc_new w (.cells a ta))
 simp only[World.size_alloc] at y3 y2
 exact⟨(((below_alloc w _).alloc (by simp) _).alloc (by simp;omega) _).alloc (by simp;omega) _,y0,y1,y2,y3⟩
theorem changes_put_any (ok:Nat→Prop)(Bv:Value)(T R:Nat)(st S lv:Value)(n:Nd)(on z:Int)(s:ByteArray)(kv:Value)(ao:Option Addr)(cap:Nat)(ps:List Pr)(w:World)(hD:Duo ok w T R st S lv n)(hp:Prs w ao ps)(hl:(n.flat []).length+ps.length≤100000000)(hao:∀i,i<ps.length→∀a,ao=some a→a.block≠T∧a.block≠R)(hokR:¬ok R) :
  Calls Tryz.prog 27 #[Bv,.agg #[ptr T,ptr R],opV 1 on s z (.slice ao ps.length cap) kv] w fun e w' => ChOut ok T R st S (putN n ps) w e w' := by
 have HD:=hide hD
 have HP:=hide hp
 have HLn:=hide hl
 have HAo:=hide hao
 have HT:Hid (T<w.heap.size):=hD.tree.lt
 have HRl:Hid (R<w.heap.size):=(aGe.1 hD.ref.box).1
 have HN' := hide (putN_ok hD.tok hD.keys ps)
 have hl1:ps.length≤100000000:=by omega
 obtain⟨hb4,z4,z5,z8,zX⟩:=four_blocks w #[.pointer (some ⟨T,0,none⟩),.pointer (some ⟨R,0,none⟩)] (opC 1 on s z (.slice ao ps.length cap) kv) #[.string lentS,.string ⟨#[]⟩] (rep2 (ps.length+1) ⟨#[]⟩).toArray 51 40 33 33
 obtain⟨W1,hcopy,xX,ho1,hs1,k1,k2,k3⟩:=copy_lent 33 27 Tryz.underlying27 sizePair ao cap 1 ps _ _ zX (hp.keep hb4)
 have x4:=(ho1 w.heap.size (by omega)).trans z4
 have x5:=(ho1 (w.heap.size+1) (by omega)).trans z5
 have x8:=(ho1 (w.heap.size+1+1) (by omega)).trans z8
 have hb1:Below w.heap.size w W1:=⟨k1.trans hb4.os,k2.trans hb4.tape,k3.trans hb4.output,by rw[hs1];exact hb4.size,fun j hj=>(ho1 j (by omega)).trans (hb4.block j hj)⟩
 have hmk:=fun W=>make_any2 (P:=Tryz.prog) W 27 33 Tryz.underlying27 infoPr (ps.length+1) (by omega)
 have HStep:Hid (((lentC ps 1 0 lentS).set (ps.length*2) (.string lentS)).set (ps.length*2+1) (.string ⟨#[]⟩)=lentC ps 1 1 lentS):=lentC_step ps 1 0 lentS (by omega)
 have HFull:=hide (lentC_full ps 1 lentS)
 have hat:=lentC_at ps 1 0 lentS (by omega)
 have HCut:Hid (∀i,i<ps.length→(prC ps++rep2 1 lentS)[i*2]? = some (.string (ps.getD i pr0).1)∧(prC ps++rep2 1 lentS)[i*2+1]? = some (.string (ps.getD i pr0).2)):=fun i h=>by
  have hq:=prC_length ps
  rw[List.getElem?_append_left (by omega),List.getElem?_append_left (by omega)]
  exact prC_get ps i h
 have HEnd:Hid ((prC ps++rep2 1 lentS)[ps.length*2]? = some (.string lentS)∧(prC ps++rep2 1 lentS)[ps.length*2+1]? = some (.string ⟨#[]⟩)):=by
  have hq:=prC_length ps
  show _∧_
  rw[List.getElem?_append_right (by omega),List.getElem?_append_right (by omega),hq,Nat.sub_self,show ps.length*2+1 - ps.length*2=1 from by omega]
  exact⟨rfl,rfl⟩
 have HLen:Hid ((prC ps++rep2 1 lentS).length=(ps.length+1)*2):=by show _=_;rw[List.length_append,prC_length,rep2_length];omega
 have HPut:=hide (fun (W:World) (X:Nat) (c:Nat) (hW:Below w.heap.size w W) (hm:Prs W (some ⟨X,0,none⟩) ps)=>cPut_both ok T st n (some ⟨X,0,none⟩) c ps W (hD.tree.keep hW) hD.tok hm hl1)
 have HRef:=hide (fun (W:World) (hW:RT W R S lv n) (hm:Prs W ao ps)=>rtPut_both S lv R n ao cap ps W hW hD.tok hm hl)
 have HSm:=hide (fun (W:World) (X c:Nat) (ha:Prs W (some ⟨X,0,none⟩) ps) (hb:Prs W ao ps)=>samePairs_big (some ⟨X,0,none⟩) ao c cap ps W ha hb hl1)
 generalize putErr ps=E at *
 generalize putN n ps=n' at *
 have HPP:Hid (∀(W:World) (X:Nat),W.heap[X]? = some (.cells (prC ps++rep2 1 lentS).toArray 33 (0,0))→Prs W (some ⟨X,0,none⟩) ps):=fun W X hW i hi=>by
  obtain⟨a1,a2⟩:=HCut.out i hi
  refine⟨X,0,rfl,?_,?_⟩
  ·rw[Nat.zero_add,cell_row hW];exact a1
  ·rw[Nat.zero_add,cell_row hW];exact a2
 have HRow0:=hide xX
 have f0:∀j,W1.frozen? ⟨w.heap.size+1+1+1,j,none⟩=false:=fun j=>frozen_of_row _ _ j _ _ xX
 have cX2:W1.cell? ⟨w.heap.size+1+1+1,ps.length*2,none⟩=some (.string ⟨#[]⟩):=(cell_row xX _).trans hat.1
 have cX3:W1.cell? ⟨w.heap.size+1+1+1,ps.length*2+1,none⟩=some (.string ⟨#[]⟩):=(cell_row xX _).trans hat.2
 obtain⟨N,hN⟩:∃N,ps.length=N:=⟨_,rfl⟩
 have HNN:=hide hN
 have hpsN:=hide hN
 rw[hN] at hl1 hmk hcopy cX2 cX3 HStep HEnd HLen x5 hl HPut HRef HSm ⊢
 have e1:((N+1:Nat):Int)=(N:Int)+1:=by omega
 rw[e1] at hmk
 have c40:W1.cell? ⟨w.heap.size,0,none⟩=some (.pointer (some ⟨T,0,none⟩)):=cell_of_row _ _ 0 _ _ (0,0) x4
 have c80:W1.cell? ⟨w.heap.size+1+1,0,none⟩=some (.string lentS):=cell_of_row _ _ 0 _ _ (0,0) x8
 have c81:W1.cell? ⟨w.heap.size+1+1,1,none⟩=some (.string ⟨#[]⟩):=cell_of_row _ _ 1 _ _ (0,0) x8
 have HB1:=hide hb1
 have HX:=hide (And.intro x4 (And.intro x5 x8))
 have n0:(0:Int)≤(N:Int):=by omega
 have n1:(N:Int)<(N:Int)+1:=by omega
 have n2:(N:Int)≤(N:Int)+1:=by omega
 have n3:(N:Int)≤((N+1:Nat):Int):=by omega
 have n4:N≤N+1:=by omega
 clear x4 x5 x8 xX hb1 hb4 z4 z5 z8 zX ho1 hs1 k1 k2 k3 hat hD hp hl hao hN e1
 unfold opC lentS at hcopy
 unfold lentS at c80
 unfold ptr opV
 go_enter Tryz.func27,Tryz.ntmps27
 go_wp2_with fail
 have hX2:((W1.setCell ⟨w.heap.size+1+1+1,N*2,none⟩ (.string ⟨#[108,101,110,116]⟩)).setCell ⟨w.heap.size+1+1+1,N*2+1,none⟩ (.string ⟨#[]⟩)).heap[w.heap.size+1+1+1]? = some (.cells (prC ps++rep2 1 lentS).toArray 33 (0,0)):=by
  have h:=set_row2 HRow0.out (N*2) (N*2+1) (.string lentS) (.string ⟨#[]⟩)
  rw[HStep.out,HFull.out] at h
  exact h
 have hB2:Below w.heap.size w ((W1.setCell ⟨w.heap.size+1+1+1,N*2,none⟩ (.string ⟨#[108,101,110,116]⟩)).setCell ⟨w.heap.size+1+1+1,N*2+1,none⟩ (.string ⟨#[]⟩)):=below_set2 HB1.out (by omega) _ _ _ _
 have hO2:∀j,j≠w.heap.size+1+1+1→((W1.setCell ⟨w.heap.size+1+1+1,N*2,none⟩ (.string ⟨#[108,101,110,116]⟩)).setCell ⟨w.heap.size+1+1+1,N*2+1,none⟩ (.string ⟨#[]⟩)).heap[j]? = W1.heap[j]?:=fun j hj=>by
  rw[heap_setCell_other _ _ _ _ (by exact hj),heap_setCell_other _ _ _ _ (by exact hj)]
 have h42:=(hO2 w.heap.size (by omega)).trans HX.out.1
 have h52:=(hO2 (w.heap.size+1) (by omega)).trans HX.out.2.1
 have h82:=(hO2 (w.heap.size+1+1) (by omega)).trans HX.out.2.2
 have HF2:=hide (And.intro h42 (And.intro h52 (And.intro h82 hX2)))
 have HB2:=hide hB2
 clear hX2 hB2 hO2 h42 h52 h82 c40 c80 c81 cX2 cX3 f0 HX HB1 hcopy hmk HStep HFull HRow0
 generalize ((W1.setCell ⟨w.heap.size+1+1+1,N*2,none⟩ (.string ⟨#[108,101,110,116]⟩)).setCell ⟨w.heap.size+1+1+1,N*2+1,none⟩ (.string ⟨#[]⟩))=W2 at *
 generalize hX:w.heap.size+1+1+1=X at *
 generalize h8:w.heap.size+1+1=a8 at *
 generalize h5:w.heap.size+1=a5 at *
 have HN:Hid (a5=w.heap.size+1∧a8=w.heap.size+2∧X=w.heap.size+3):=by refine⟨?_,?_,?_⟩<;>omega
 clear hX h8 h5
 have HPut2:=hide (HPut.out W2.drew X (N+1) HB2.out.drew (HPP.out W2.drew X HF2.out.2.2.2))
 have c40:W2.cell? ⟨w.heap.size,0,none⟩=some (.pointer (some ⟨T,0,none⟩)):=cell_of_row _ _ 0 _ _ (0,0) HF2.out.1
 clear HPut
 unfold ptr at HPut2
 go_region_held3 (fun W=>W.cell? ⟨w.heap.size,0,none⟩=some (.pointer (some ⟨T,0,none⟩))) (first|go_keep|(simp[*])) ((go_at_call 10;refine HPut2.out.mono ?_;rintro e w3 ⟨rfl,h1,h2⟩;have HO3:=hide h1;have HT3:=hide h2;have c403:w3.cell? ⟨w.heap.size,0,none⟩=some (.pointer (some ⟨T,0,none⟩)):=(by rw[World.cell?_of_block (h1.block _ (aGe.1 HF2.out.1).1 (by have:=HT.out;show ¬(w.heap.size=T);omega))];exact c40);clear h1 h2))
 have HS3:Hid (W2.heap.size≤w3.heap.size):=HO3.out.size
 have HK3:Hid (∀j,j<W2.heap.size→j≠T→w3.heap[j]? = W2.heap[j]?):=fun j hj hne=>HO3.out.block j hj hne
 have hlX:X<W2.heap.size:=(aGe.1 HF2.out.2.2.2).1
 have h43:w3.heap[w.heap.size]? = _:=(HK3.out _ (by have:=HN.out;omega) (by have:=HT.out;omega)).trans HF2.out.1
 have h53:w3.heap[a5]? = _:=(HK3.out _ (by have:=HN.out;omega) (by have:=HN.out;have:=HT.out;omega)).trans HF2.out.2.1
 have h83:w3.heap[a8]? = _:=(HK3.out _ (by have:=HN.out;omega) (by have:=HN.out;have:=HT.out;omega)).trans HF2.out.2.2.1
 have hX3:w3.heap[X]? = _:=(HK3.out _ hlX (by have:=HN.out;have:=HT.out;omega)).trans HF2.out.2.2.2
 have hE3:Ex (fun j=>j=T) w w3:=(Ex.of_below HB2.out).trans ⟨HO3.out.os,HO3.out.tape,HO3.out.output,HO3.out.size,fun j hj hne=>HO3.out.block j hj hne⟩
 have hR3:RT w3 R S lv n:=HD.out.ref.same (hE3.block R HRl.out (fun e=>HD.out.ne e.symm)) (fun j cs t fr ht hc=>by
  rw[hE3.block j (aGe.1 hc).1 (fun e=>by
   have h:=(twoTypes HD.out j cs t fr hc).1 e
   rcases ht with ht|ht<;>rw[ht] at h<;>exact absurd h (by decide))]
  exact hc)
 have hP3:Prs w3 ao ps:=fun i hi=>by
  obtain⟨b,o,e,q1,q2⟩:=HP.out i hi
  have hb:=World.block_lt_of_cell? w _ q1
  have hs:=hE3.block b hb (fun e2=>(HAo.out i hi _ e).1 e2)
  exact⟨b,o,e,(World.cell?_of_block (a:=⟨b,o+i*2,none⟩) hs).trans q1,(World.cell?_of_block (a:=⟨b,o+i*2+1,none⟩) hs).trans q2⟩
 have HRef2:=hide (HRef.out w3 hR3 hP3)
 have c413:w3.cell? ⟨w.heap.size,1,none⟩=some (.pointer (some ⟨R,0,none⟩)):=cell_of_row _ _ 1 _ _ (0,0) h43
 have c543:w3.cell? ⟨a5,4,none⟩=some (.slice ao N cap):=cell_of_row _ _ 4 _ _ (0,0) h53
 have HF3:=hide (And.intro h43 (And.intro h53 (And.intro h83 (And.intro hX3 hP3))))
 have HE3:=hide hE3
 clear h43 h53 h83 hX3 hE3 hR3 hP3 c40 c403 hlX HRef
 go_wp2_with fail
 refine HRef2.out.mono ?_
 rintro e w4 ⟨rfl,hE4,rv,hr4⟩
 have HR4:=hide hr4
 clear hr4
 have hh54:w4.heap[a5]? = _:=(hE4.block _ (aGe.1 HF3.out.2.1).1 (by have:=HRl.out;have:=HN.out;show _≠R;omega)).trans HF3.out.2.1
 have hh84:w4.heap[a8]? = _:=(hE4.block _ (aGe.1 HF3.out.2.2.1).1 (by have:=HRl.out;have:=HN.out;show _≠R;omega)).trans HF3.out.2.2.1
 have hhX4:w4.heap[X]? = _:=(hE4.block _ (aGe.1 HF3.out.2.2.2.1).1 (by have:=HRl.out;have:=HN.out;show _≠R;omega)).trans HF3.out.2.2.2.1
 have hP4:Prs w4 ao ps:=fun i hi=>by
  obtain⟨b,o,e,q1,q2⟩:=HF3.out.2.2.2.2 i hi
  have hb:=World.block_lt_of_cell? w3 _ q1
  have hs:=hE4.block b hb (fun e2=>(HAo.out i hi _ e).2 e2)
  exact⟨b,o,e,(World.cell?_of_block (a:=⟨b,o+i*2,none⟩) hs).trans q1,(World.cell?_of_block (a:=⟨b,o+i*2+1,none⟩) hs).trans q2⟩
 have HE4:=hide hE4
 clear hE4
 have c54:w4.cell? ⟨a5,4,none⟩=some (.slice ao N cap):=cell_of_row _ _ 4 _ _ (0,0) hh54
 have c80:w4.cell? ⟨a8,0,none⟩=some (.string ⟨#[108,101,110,116]⟩):=cell_of_row _ _ 0 _ _ (0,0) hh84
 have c81:w4.cell? ⟨a8,1,none⟩=some (.string ⟨#[]⟩):=cell_of_row _ _ 1 _ _ (0,0) hh84
 have cX2:w4.cell? ⟨X,N*2,none⟩=some (.string ⟨#[108,101,110,116]⟩):=(cell_row hhX4 _).trans HEnd.out.1
 have cX3:w4.cell? ⟨X,N*2+1,none⟩=some (.string ⟨#[]⟩):=(cell_row hhX4 _).trans HEnd.out.2
 have HSame:Hid (Calls Tryz.prog 38 #[.slice (some ⟨X,0,none⟩) N (N+1),.slice ao N cap] w4.drew fun e w' => e=.returned (.bool true)∧Below w4.heap.size w4.drew w'):=HSm.out w4.drew X (N+1) (HPP.out w4.drew X hhX4) (hP4.keep (Below.refl _ _).drew)
 have HF4:=hide (And.intro hh84 (And.intro hhX4 hh54))
 clear hh54 hh84 hhX4 hP4 HPut2 HPP HRef2 HSm
 have HKc:Hid (∀w5:World,Below w4.heap.size w4.drew w5→w5.cell? ⟨a5,4,none⟩=some (.slice ao N cap)∧w5.cell? ⟨a8,0,none⟩=some (.string ⟨#[108,101,110,116]⟩)∧w5.cell? ⟨a8,1,none⟩=some (.string ⟨#[]⟩)∧w5.cell? ⟨X,N*2,none⟩=some (.string ⟨#[108,101,110,116]⟩)∧w5.cell? ⟨X,N*2+1,none⟩=some (.string ⟨#[]⟩)):=fun w5 hb =>
  ⟨(hb.cell (p:=⟨a5,4,none⟩) (World.block_lt_of_cell? w4 _ c54)).trans c54,(hb.cell (p:=⟨a8,0,none⟩) (World.block_lt_of_cell? w4 _ c80)).trans c80,(hb.cell (p:=⟨a8,1,none⟩) (World.block_lt_of_cell? w4 _ c81)).trans c81,(hb.cell (p:=⟨X,N*2,none⟩) (World.block_lt_of_cell? w4 _ cX2)).trans cX2,(hb.cell (p:=⟨X,N*2+1,none⟩) (World.block_lt_of_cell? w4 _ cX3)).trans cX3⟩
 go_wp2_with fail
 go_region_held3 (fun W=>W.cell? ⟨a5,4,none⟩=some (.slice ao N cap)∧W.cell? ⟨a8,0,none⟩=some (.string ⟨#[108,101,110,116]⟩)∧W.cell? ⟨a8,1,none⟩=some (.string ⟨#[]⟩)∧W.cell? ⟨X,N*2,none⟩=some (.string ⟨#[108,101,110,116]⟩)∧W.cell? ⟨X,N*2+1,none⟩=some (.string ⟨#[]⟩)) (first|go_keep|(simp[*])) ((go_at_call 38;refine HSame.out.mono ?_;rintro e w5 ⟨rfl,hb5⟩;have HB5:=hide hb5;obtain⟨q1,q2,q3,q4,q5⟩:=HKc.out w5 hb5;clear hb5))
 have HX5:Hid (w5.heap[X]? = some (.cells (prC ps++rep2 1 lentS).toArray 33 (0,0))):=(HB5.out.block X (aGe.1 HF4.out.2.1).1).trans HF4.out.2.1
 have HU:=hide num_any
 clear q1 q2 q3 q4 q5 c54 c80 c81 cX2 cX3 HKc HSame
 go_wp2_with fail
 go_loopw [13] (fun iv wr=>∃k:Nat,iv=.int .i64 (k:Int)∧k≤N+1∧(∃L:List Value,L.length=(N+1)*2∧wr.heap[X]? = some (.cells L.toArray 33 (0,0)))∧Ex (fun j=>j=X) w5 wr) (fun iv _=>N+1 - (intOf iv).toNat)
 case atStart=>exact⟨0,rfl,by omega,⟨_,HLen.out,HX5.out⟩,Ex.of_below (Below.refl _ _)⟩
 case round =>
  obtain⟨k,rfl,hk,⟨L,hL,hrow⟩,hex⟩:=hrel
  have HRow:=hide hrow
  have HEx:=hide hex
  have HL:=hide hL
  have k0:(0:Int)≤(k:Int):=by omega
  by_cases hkl:k<N+1
  ·have k1:(k:Int)<(N:Int)+1:=by omega
   obtain⟨u1,d1⟩:∃u,wr.cell? ⟨X,k*2,none⟩=some u:=by
    rw[cell_row hrow];exact⟨_,List.getElem?_eq_getElem (by omega)⟩
   obtain⟨u2,d2⟩:∃u,wr.cell? ⟨X,k*2+1,none⟩=some u:=by
    rw[cell_row hrow];exact⟨_,List.getElem?_eq_getElem (by omega)⟩
   have ff:∀j,wr.frozen? ⟨X,j,none⟩=false:=fun j=>frozen_of_row _ _ j _ _ hrow
   clear hrow hex hL
   go_wp2
   go_roundw
   case rel=>exact⟨k+1,by go_num,by omega,⟨_,by rw[List.length_set,List.length_set];exact HL.out,set_row2 HRow.out _ _ _ _⟩,(HEx.out.set (p:=⟨X,k*2,none⟩) (.inl rfl) _).set (p:=⟨X,k*2+1,none⟩) (.inl rfl) _⟩
   case measure=>simp[intOf];omega
  ·obtain rfl:k=N+1:=by omega
   have k1:((N+1:Nat):Int)=(N:Int)+1:=by omega
   rw[k1]
   clear hrow hex hL k1
   go_wp2_with fail
   refine (HU.out _ _).mono ?_
   rintro e w6 ⟨rfl,rfl⟩
   go_wp2
   go_ret
   have hN:=HN.out
   have s2:=HB2.out.size
   have s3:=HS3.out
   have s4:=HE4.out.size
   have s5:w4.heap.size≤w5.heap.size:=HB5.out.size
   have s6:=HEx.out.size
   have hb45:Below w4.heap.size w4 w5:=⟨HB5.out.os,HB5.out.tape,HB5.out.output,HB5.out.size,fun j hj=>HB5.out.block j hj⟩
   have h36:Ex (fun j=>j=R∨j=X) w3 w6:=((HE4.out.mono (fun j _ h=>.inl h)).trans (Ex.of_below hb45)).trans (HEx.out.mono (fun j _ h=>.inr h))
   obtain⟨t1,t2,t3⟩:=HN'.out
   refine⟨by simp,?_,rv,okTo ok W2 w3,⟨?_,?_,t1,t2⟩,fun j hj=>?_⟩
   ·refine⟨h36.os.trans HE3.out.os,h36.tape.trans HE3.out.tape,h36.output.trans HE3.out.output,by omega,fun j hj hx=>?_⟩
    rw[h36.block j (by omega) (fun h=>by rcases h with h|h;exact hx (.inr h);omega)]
    exact HE3.out.block j hj (fun e=>hx (.inl e))
   ·refine HT3.out.ex h36 (fun h=>by rcases h with h|h;exact HD.out.ne h;have:=HT.out;omega) (fun j hj h=>?_)
    rcases hj with hj|hj
    ·rcases h with h|h
     ·exact hokR (h ▸ hj)
     ·have:=(HD.out.tree.blk j hj).1;omega
    ·have h1:W2.heap.size≤j:=hj.1
     have:=HRl.out
     have hlX:X<W2.heap.size:=(aGe.1 HF2.out.2.2.2).1
     rcases h with h|h<;>omega
   ·refine (HR4.out.keep hb45).same (HEx.out.block R (by have:=HRl.out;omega) (by have:=HRl.out;show R≠X;omega)) (fun j cs t fr ht hc=>?_)
    rw[HEx.out.block j (aGe.1 hc).1 (fun e=>by
     rw[show j=X from e,HX5.out] at hc
     injection hc with hc
     injection hc with _ hc _
     rcases ht with ht|ht<;>rw[ht] at hc<;>exact absurd hc (by decide))]
    exact hc
   ·rcases hj with hj|hj
    ·exact .inl hj
    ·have h1:W2.heap.size≤j:=hj.1
     right;omega
def kyC (ks:List ByteArray):List Value:=ks.map Value.string
theorem kyC_length (ks:List ByteArray):(kyC ks).length=ks.length:=List.length_map ..
theorem kyC_get (ks:List ByteArray)(i:Nat)(h:i<ks.length):(kyC ks)[i]? = some (.string (ks.getD i e0)):=by
 unfold kyC
 rw[List.getElem?_map,List.getD_eq_getElem?_getD,List.getElem?_eq_getElem h];rfl
theorem kyC_one {ks:List ByteArray}:∀u∈kyC ks,u.oneCell' = true:=fun u hu=>by
 obtain⟨t,_,rfl⟩:=List.mem_map.1 hu
 rfl
theorem kys_news {w:World}{g o:Nat}{ks:List ByteArray}(h:Kys w (some ⟨g,o,none⟩) ks):∀j u,(kyC ks)[j]? = some u→w.cell? ((⟨g,o,none⟩:Addr).add j)=some u:=fun j u hj=>by
 have hl:=(List.getElem?_eq_some_iff.1 hj).1
 rw[kyC_length] at hl
 obtain⟨g', o', e,h1⟩:=h j hl
 obtain⟨rfl,rfl⟩:g=g' ∧ o=o' := by simpa using e
 rw[addr_add,h1,←hj,kyC_get ks j hl]
theorem made1 (z:Value)(n:Nat):madeCells #[z] n=(List.replicate n z).toArray:=by
 apply Array.ext
 ·simp[madeCells]
 ·intro i h1 h2
  simp[madeCells,Nat.mod_one]
theorem make_any1 (w:World)(k:Nat)(hk:k≤1000000000):(Instr.makeSlice 38 (.int .i64 (k:Int)) (.int .i64 (k:Int))).run Tryz.prog w=.ok (.slice (some ⟨w.heap.size,0,none⟩) k k) (w.alloc (.cells (List.replicate k (Value.string ⟨#[]⟩)).toArray 9)):=by
 obtain⟨i0,hi,hz0,hz1,hz2⟩:=info_parts infoStr
 have h:=run_make (P:=Tryz.prog) w 38 9 i0 (.string ⟨#[]⟩) Tryz.underlying38 hi hz0 .i64 .i64 (k:Int) (k:Int) (by omega) (by omega) (by rw[hz2];omega) (by omega)
 rw[←made1]
 simpa[hz1,Value.cells] using h
theorem sizeStr1:(Tryz.prog.info? 9).map (·.size)=some 1:=by kernel_rfl
theorem copy_keys (ao:Option Addr)(cap:Nat)(ks:List ByteArray)(w:World)(g:Nat)(hg:w.heap[g]? = some (.cells (List.replicate (ks.length+1) (Value.string ⟨#[]⟩)).toArray 9 (0,0)))(hp:Kys w ao ks) :
  ∃W1,(Builtin.copy_ #[38,38] 3 #[.slice (some ⟨g,0,none⟩) (ks.length+1) (ks.length+1),.slice ao ks.length cap]).run Tryz.prog w=.ok (.int .i64 (ks.length:Int)) W1∧W1.heap[g]? = some (.cells (kyC ks++[Value.string ⟨#[]⟩]).toArray 9 (0,0))∧(∀k,k≠g→W1.heap[k]? = w.heap[k]?)∧W1.heap.size=w.heap.size∧W1.os=w.os∧W1.tape=w.tape∧W1.output=w.output:=by
 by_cases h0:ks.length=0
 ·obtain rfl:=List.eq_nil_of_length_eq_zero h0
  have h:=run_copy_none (P:=Tryz.prog) w 38 38 3 9 (some ⟨g,0,none⟩) ao (0+1) (0+1) 0 cap Tryz.underlying38 sizeStr1 (by simp)
  refine⟨w,h,?_,fun _ _=>rfl,rfl,rfl,rfl,rfl⟩
  rw[hg];rfl
 ·obtain⟨b,o,rfl,_⟩:=hp 0 (by omega)
  have hmin:Nat.min ks.length (ks.length+1)=ks.length:=Nat.min_eq_left (by omega)
  have h:=run_copy_row (P:=Tryz.prog) w 38 38 3 9 g 0 (ks.length+1) (ks.length+1) ⟨b,o,none⟩ ks.length cap (List.replicate (ks.length+1) (Value.string ⟨#[]⟩)).toArray 9 (kyC ks) Tryz.underlying38 sizeStr1 hg (by rw[hmin,kyC_length]) (kys_news hp) (by rw[kyC_length];simp) kyC_one
  rw[kyC_length] at h
  refine⟨_,h,?_,fun k hk=>by rw[setRow_other _ _ _ _ hk],by rw[setRow_size],rfl,rfl,rfl⟩
  rw[setRow_heap w _ _ _ _ _ hg]
  have e:((List.replicate (ks.length+1) (Value.string ⟨#[]⟩)).toArray.toList.take 0++kyC ks++(List.replicate (ks.length+1) (Value.string ⟨#[]⟩)).toArray.toList.drop (0+ks.length))=kyC ks++[Value.string ⟨#[]⟩]:=by
   rw[Nat.zero_add,List.take_zero,List.nil_append]
   show _++List.drop _ (List.replicate _ _)=_
   rw[List.drop_replicate,show ks.length+1 - ks.length=1 from by omega]
   rfl
  rw[e]
theorem set_row1 {w:World}{g:Nat}{L:List Value}{t:TypeId}(h:w.heap[g]? = some (.cells L.toArray t (0,0)))(i:Nat)(a:Value) :
  (w.setCell ⟨g,i,none⟩ a).heap[g]? = some (.cells (L.set i a).toArray t (0,0)):=by
 rw[heap_setCell_same w g i _ t _ h]
 simp
theorem sameTexts_any (ao bo:Option Addr)(ca cb:Nat)(L:List ByteArray)(w:World)(ha:Kys w ao L)(hb:Kys w bo L)(hl:L.length≤100000000) :
  Calls Tryz.prog 61 #[.slice ao L.length ca,.slice bo L.length cb] w fun e w' => e=.returned (.bool true)∧Below w.heap.size w w' := by
 have HA:=hide ha
 have HB:=hide hb
 clear ha hb
 go_enter Tryz.func61,Tryz.ntmps61
 go_wp2_with fail
 go_loopw [5] (fun iv wr=>∃i:Nat,i≤L.length∧iv=.int .i64 (i:Int)∧Below w.heap.size w wr) (fun iv _=>L.length - (intOf iv).toNat)
 case atStart=>exact⟨0,by omega,rfl,Below.refl _ _⟩
 case round =>
  obtain⟨i,hi,rfl,hbw⟩:=hrel
  have HBW:=hide hbw
  clear hbw
  have j0:(0:Int)≤(i:Int):=by omega
  by_cases hil:i<L.length
  ·have j1:(i:Int)<(L.length:Int):=by omega
   obtain⟨g1,o1,rfl,x1⟩:=HA.out.keep HBW.out i hil
   obtain⟨g2,o2,rfl,y1⟩:=HB.out.keep HBW.out i hil
   generalize L.getD i e0=t at *
   go_wp2
   go_quiet (fail)
   go_wp2
   go_roundw
   case rel=>exact⟨i+1,by omega,by go_num,below_drewN HBW.out _⟩
   case measure=>simp[intOf];omega
  ·obtain rfl:i=L.length:=by omega
   go_wp2
   go_ret
   exact⟨rfl,HBW.out⟩
theorem three_blocks (w:World)(a b c:Array Value)(ta tb tc:TypeId):Below w.heap.size w (((w.alloc (.cells a ta)).alloc (.cells b tb)).alloc (.cells c tc)) ∧
  (((w.alloc (.cells a ta)).alloc (.cells b tb)).alloc (.cells c tc)).heap[w.heap.size]? = some (.cells a ta (0,0))∧(((w.alloc (.cells a ta)).alloc (.cells b tb)).alloc (.cells c tc)).heap[w.heap.size+1]? = some (.cells b tb (0,0))∧(((w.alloc (.cells a ta)).alloc (.cells b tb)).alloc (.cells c tc)).heap[w.heap.size+1+1]? = some (.cells c tc (0,0)):=by
 have y2:=heap_alloc_new ((w.alloc (.cells a ta)).alloc (.cells b tb)) (.cells c tc)
 have y1a:((w.alloc (.cells a ta)).alloc (.cells b tb)).heap[w.heap.size+1]? = some (.cells b tb (0,0)):=by
  have h:=heap_alloc_new (w.alloc (.cells a ta)) (.cells b tb)
  rw[World.size_alloc] at h
  exact h
 have y1:=(Below.heap_alloc ((w.alloc (.cells a ta)).alloc (.cells b tb)) (.cells c tc) (w.heap.size+1) (by simp)).trans y1a
 have y0:=((Below.heap_alloc ((w.alloc (.cells a ta)).alloc (.cells b tb)) (.cells c tc) w.heap.size (by simp;omega)).trans (Below.heap_alloc (w.alloc (.cells a ta)) (.cells b tb) w.heap.size (by simp))).trans (heap_alloc_new w (.cells a ta))
 simp only[World.size_alloc] at y2
 exact⟨((below_alloc w _).alloc (by simp) _).alloc (by simp;omega) _,y0,y1,y2⟩
theorem changes_del_any (ok:Nat→Prop)(Bv:Value)(T R:Nat)(st S lv:Value)(n:Nd)(on z:Int)(s:ByteArray)(pv:Value)(ao:Option Addr)(cap:Nat)(ks:List ByteArray)(w:World)(hD:Duo ok w T R st S lv n)(hp:Kys w ao ks)(hl:(n.flat []).length+ks.length≤100000000)(hao:∀i,i<ks.length→∀a,ao=some a→a.block≠T∧a.block≠R)(hokR:¬ok R) :
  Calls Tryz.prog 27 #[Bv,.agg #[ptr T,ptr R],opV 2 on s z pv (.slice ao ks.length cap)] w fun e w' => ChOut ok T R st S (putN n (delP ks)) w e w' := by
 have HD:=hide hD
 have HP:=hide hp
 have HAo:=hide hao
 have HT:Hid (T<w.heap.size):=hD.tree.lt
 have HRl:Hid (R<w.heap.size):=(aGe.1 hD.ref.box).1
 have HN' := hide (putN_ok hD.tok hD.keys (delP ks))
 have hl1:ks.length≤100000000:=by omega
 obtain⟨hb4,z4,z5,zX⟩:=three_blocks w #[.pointer (some ⟨T,0,none⟩),.pointer (some ⟨R,0,none⟩)] (opC 2 on s z pv (.slice ao ks.length cap)) (List.replicate (ks.length+1) (Value.string ⟨#[]⟩)).toArray 51 40 9
 obtain⟨W1,hcopy,xX,ho1,hs1,k1,k2,k3⟩:=copy_keys ao cap ks _ _ zX (hp.keep hb4)
 have x4:=(ho1 w.heap.size (by omega)).trans z4
 have x5:=(ho1 (w.heap.size+1) (by omega)).trans z5
 have hb1:Below w.heap.size w W1:=⟨k1.trans hb4.os,k2.trans hb4.tape,k3.trans hb4.output,by rw[hs1];exact hb4.size,fun j hj=>(ho1 j (by omega)).trans (hb4.block j hj)⟩
 have hmk:=fun W=>make_any1 W (ks.length+1) (by omega)
 have HStep:Hid ((kyC ks++[Value.string ⟨#[]⟩]).set ks.length (.string lentS)=kyC ks++[Value.string lentS]):=by
  show _=_
  rw[List.set_append_right _ _ (by rw[kyC_length];exact Nat.le_refl _),kyC_length,Nat.sub_self];rfl
 have HEnd:Hid ((kyC ks++[Value.string lentS])[ks.length]? = some (.string lentS)):=by
  show _=_
  rw[List.getElem?_append_right (by rw[kyC_length];exact Nat.le_refl _),kyC_length,Nat.sub_self];rfl
 have HLen:Hid ((kyC ks++[Value.string lentS]).length=ks.length+1):=by show _=_;rw[List.length_append,kyC_length];rfl
 have HPut:=hide (fun (W:World) (X:Nat) (c:Nat) (hW:Below w.heap.size w W) (hm:Kys W (some ⟨X,0,none⟩) ks)=>cDel_both ok T st n (some ⟨X,0,none⟩) c ks W (hD.tree.keep hW) hD.tok hm hl1)
 have HRef:=hide (fun (W:World) (hW:RT W R S lv n) (hm:Kys W ao ks)=>rtDel_both S lv R n ao cap ks W hW hD.tok hm hl)
 have HSm:=hide (fun (W:World) (X c:Nat) (ha:Kys W (some ⟨X,0,none⟩) ks) (hb:Kys W ao ks)=>sameTexts_any (some ⟨X,0,none⟩) ao c cap ks W ha hb hl1)
 generalize delErr ks=E at *
 generalize putN n (delP ks)=n' at *
 have HPP:Hid (∀(W:World) (X:Nat),W.heap[X]? = some (.cells (kyC ks++[Value.string lentS]).toArray 9 (0,0))→Kys W (some ⟨X,0,none⟩) ks):=fun W X hW i hi=>by
  refine⟨X,0,rfl,?_⟩
  rw[Nat.zero_add,cell_row hW,List.getElem?_append_left (by rw[kyC_length];exact hi)]
  exact kyC_get ks i hi
 have HRow0:=hide xX
 have f0:∀j,W1.frozen? ⟨w.heap.size+1+1,j,none⟩=false:=fun j=>frozen_of_row _ _ j _ _ xX
 have cX2:W1.cell? ⟨w.heap.size+1+1,ks.length,none⟩=some (.string ⟨#[]⟩):=(cell_row xX _).trans (by rw[List.getElem?_append_right (by rw[kyC_length];exact Nat.le_refl _),kyC_length,Nat.sub_self];rfl)
 obtain⟨N,hN⟩:∃N,ks.length=N:=⟨_,rfl⟩
 rw[hN] at hl1 hmk hcopy cX2 HStep HEnd HLen x5 hl HPut HRef HSm ⊢
 have e1:((N+1:Nat):Int)=(N:Int)+1:=by omega
 rw[e1] at hmk
 have c40:W1.cell? ⟨w.heap.size,0,none⟩=some (.pointer (some ⟨T,0,none⟩)):=cell_of_row _ _ 0 _ _ (0,0) x4
 have HB1:=hide hb1
 have HX:=hide (And.intro x4 x5)
 have n0:(0:Int)≤(N:Int):=by omega
 have n1:(N:Int)<(N:Int)+1:=by omega
 have n2:(N:Int)≤(N:Int)+1:=by omega
 have n3:(N:Int)≤((N+1:Nat):Int):=by omega
 have n4:N≤N+1:=by omega
 clear x4 x5 xX hb1 hb4 z4 z5 zX ho1 hs1 k1 k2 k3 hD hp hl hao hN e1
 unfold opC at hcopy
 generalize List.replicate (N+1) (Value.string ⟨#[]⟩)=Z at hmk hcopy
 unfold ptr opV
 go_enter Tryz.func27,Tryz.ntmps27
 go_wp2_with fail
 have hX2:(W1.setCell ⟨w.heap.size+1+1,N,none⟩ (.string ⟨#[108,101,110,116]⟩)).heap[w.heap.size+1+1]? = some (.cells (kyC ks++[Value.string lentS]).toArray 9 (0,0)):=by
  have h:=set_row1 HRow0.out N (.string lentS)
  rw[HStep.out] at h
  exact h
 have hB2:Below w.heap.size w (W1.setCell ⟨w.heap.size+1+1,N,none⟩ (.string ⟨#[108,101,110,116]⟩)):=HB1.out.setCell (p:=⟨w.heap.size+1+1,N,none⟩) (by show w.heap.size≤w.heap.size+1+1;omega) _
 have hO2:∀j,j≠w.heap.size+1+1→(W1.setCell ⟨w.heap.size+1+1,N,none⟩ (.string ⟨#[108,101,110,116]⟩)).heap[j]? = W1.heap[j]?:=fun j hj=>by
  rw[heap_setCell_other _ _ _ _ (by exact hj)]
 have h42:=(hO2 w.heap.size (by omega)).trans HX.out.1
 have h52:=(hO2 (w.heap.size+1) (by omega)).trans HX.out.2
 have HF2:=hide (And.intro h42 (And.intro h52 hX2))
 have HB2:=hide hB2
 clear hX2 hB2 hO2 h42 h52 c40 cX2 f0 HX HB1 hcopy hmk HStep HRow0
 generalize (W1.setCell ⟨w.heap.size+1+1,N,none⟩ (.string ⟨#[108,101,110,116]⟩))=W2 at *
 generalize hX:w.heap.size+1+1=X at *
 generalize h5:w.heap.size+1=a5 at *
 have HN:Hid (a5=w.heap.size+1∧X=w.heap.size+2):=by refine⟨?_,?_⟩<;>omega
 clear hX h5
 have HPut2:=hide (HPut.out W2.drew X (N+1) HB2.out.drew (HPP.out W2.drew X HF2.out.2.2))
 have c40:W2.cell? ⟨w.heap.size,0,none⟩=some (.pointer (some ⟨T,0,none⟩)):=cell_of_row _ _ 0 _ _ (0,0) HF2.out.1
 clear HPut
 unfold ptr at HPut2
 go_region_held3 (fun W=>W.cell? ⟨w.heap.size,0,none⟩=some (.pointer (some ⟨T,0,none⟩))) (first|go_keep|(simp[*])) ((go_at_call 59;refine HPut2.out.mono ?_;rintro e w3 ⟨rfl,h1,h2⟩;have HO3:=hide h1;have HT3:=hide h2;have c403:w3.cell? ⟨w.heap.size,0,none⟩=some (.pointer (some ⟨T,0,none⟩)):=(by rw[World.cell?_of_block (h1.block _ (aGe.1 HF2.out.1).1 (by have:=HT.out;show ¬(w.heap.size=T);omega))];exact c40);clear h1 h2))
 have HS3:Hid (W2.heap.size≤w3.heap.size):=HO3.out.size
 have HK3:Hid (∀j,j<W2.heap.size→j≠T→w3.heap[j]? = W2.heap[j]?):=fun j hj hne=>HO3.out.block j hj hne
 have hlX:X<W2.heap.size:=(aGe.1 HF2.out.2.2).1
 have h43:w3.heap[w.heap.size]? = _:=(HK3.out _ (by have:=HN.out;omega) (by have:=HT.out;omega)).trans HF2.out.1
 have h53:w3.heap[a5]? = _:=(HK3.out _ (by have:=HN.out;omega) (by have:=HN.out;have:=HT.out;omega)).trans HF2.out.2.1
 have hX3:w3.heap[X]? = _:=(HK3.out _ hlX (by have:=HN.out;have:=HT.out;omega)).trans HF2.out.2.2
 have hE3:Ex (fun j=>j=T) w w3:=(Ex.of_below HB2.out).trans ⟨HO3.out.os,HO3.out.tape,HO3.out.output,HO3.out.size,fun j hj hne=>HO3.out.block j hj hne⟩
 have hR3:RT w3 R S lv n:=HD.out.ref.same (hE3.block R HRl.out (fun e=>HD.out.ne e.symm)) (fun j cs t fr ht hc=>by
  rw[hE3.block j (aGe.1 hc).1 (fun e=>by
   have h:=(twoTypes HD.out j cs t fr hc).1 e
   rcases ht with ht|ht<;>rw[ht] at h<;>exact absurd h (by decide))]
  exact hc)
 have hP3:Kys w3 ao ks:=fun i hi=>by
  obtain⟨b,o,e,q1⟩:=HP.out i hi
  have hb:=World.block_lt_of_cell? w _ q1
  have hs:=hE3.block b hb (fun e2=>(HAo.out i hi _ e).1 e2)
  exact⟨b,o,e,(World.cell?_of_block (a:=⟨b,o+i,none⟩) hs).trans q1⟩
 have HRef2:=hide (HRef.out w3 hR3 hP3)
 have c413:w3.cell? ⟨w.heap.size,1,none⟩=some (.pointer (some ⟨R,0,none⟩)):=cell_of_row _ _ 1 _ _ (0,0) h43
 have c543:w3.cell? ⟨a5,5,none⟩=some (.slice ao N cap):=cell_of_row _ _ 5 _ _ (0,0) h53
 have HF3:=hide (And.intro h43 (And.intro h53 (And.intro hX3 hP3)))
 have HE3:=hide hE3
 clear h43 h53 hX3 hE3 hR3 hP3 c40 c403 hlX HRef
 go_wp2_with fail
 refine HRef2.out.mono ?_
 rintro e w4 ⟨rfl,hE4,rv,hr4⟩
 have HR4:=hide hr4
 clear hr4
 have hh54:w4.heap[a5]? = _:=(hE4.block _ (aGe.1 HF3.out.2.1).1 (by have:=HRl.out;have:=HN.out;show _≠R;omega)).trans HF3.out.2.1
 have hhX4:w4.heap[X]? = _:=(hE4.block _ (aGe.1 HF3.out.2.2.1).1 (by have:=HRl.out;have:=HN.out;show _≠R;omega)).trans HF3.out.2.2.1
 have hP4:Kys w4 ao ks:=fun i hi=>by
  obtain⟨b,o,e,q1⟩:=HF3.out.2.2.2 i hi
  have hb:=World.block_lt_of_cell? w3 _ q1
  have hs:=hE4.block b hb (fun e2=>(HAo.out i hi _ e).2 e2)
  exact⟨b,o,e,(World.cell?_of_block (a:=⟨b,o+i,none⟩) hs).trans q1⟩
 have HE4:=hide hE4
 clear hE4
 have c54:w4.cell? ⟨a5,5,none⟩=some (.slice ao N cap):=cell_of_row _ _ 5 _ _ (0,0) hh54
 have cX2:w4.cell? ⟨X,N,none⟩=some (.string ⟨#[108,101,110,116]⟩):=(cell_row hhX4 _).trans HEnd.out
 have HSame:Hid (Calls Tryz.prog 61 #[.slice (some ⟨X,0,none⟩) N (N+1),.slice ao N cap] w4.drew fun e w' => e=.returned (.bool true)∧Below w4.heap.size w4.drew w'):=HSm.out w4.drew X (N+1) (HPP.out w4.drew X hhX4) (hP4.keep (Below.refl _ _).drew)
 have HF4:=hide (And.intro hhX4 hh54)
 clear hh54 hhX4 hP4 HPut2 HPP HRef2 HSm
 have HKc:Hid (∀w5:World,Below w4.heap.size w4.drew w5→w5.cell? ⟨a5,5,none⟩=some (.slice ao N cap)∧w5.cell? ⟨X,N,none⟩=some (.string ⟨#[108,101,110,116]⟩)):=fun w5 hb =>
  ⟨(hb.cell (p:=⟨a5,5,none⟩) (World.block_lt_of_cell? w4 _ c54)).trans c54,(hb.cell (p:=⟨X,N,none⟩) (World.block_lt_of_cell? w4 _ cX2)).trans cX2⟩
 go_wp2_with fail
 go_region_held3 (fun W=>W.cell? ⟨a5,5,none⟩=some (.slice ao N cap)∧W.cell? ⟨X,N,none⟩=some (.string ⟨#[108,101,110,116]⟩)) (first|go_keep|(simp[*])) ((go_at_call 61;refine HSame.out.mono ?_;rintro e w5 ⟨rfl,hb5⟩;have HB5:=hide hb5;obtain⟨q1,q2⟩:=HKc.out w5 hb5;clear hb5))
 have HX5:Hid (w5.heap[X]? = some (.cells (kyC ks++[Value.string lentS]).toArray 9 (0,0))):=(HB5.out.block X (aGe.1 HF4.out.1).1).trans HF4.out.1
 have HU:=hide num_any
 clear q1 q2 c54 cX2 HKc HSame
 go_wp2_with fail
 go_loopw [19] (fun iv wr=>∃k:Nat,iv=.int .i64 (k:Int)∧k≤N+1∧(∃L:List Value,L.length=N+1∧wr.heap[X]? = some (.cells L.toArray 9 (0,0)))∧Ex (fun j=>j=X) w5 wr) (fun iv _=>N+1 - (intOf iv).toNat)
 case atStart=>exact⟨0,rfl,by omega,⟨_,HLen.out,HX5.out⟩,Ex.of_below (Below.refl _ _)⟩
 case round =>
  obtain⟨k,rfl,hk,⟨L,hL,hrow⟩,hex⟩:=hrel
  have HRow:=hide hrow
  have HEx:=hide hex
  have HL:=hide hL
  have k0:(0:Int)≤(k:Int):=by omega
  by_cases hkl:k<N+1
  ·have k1:(k:Int)<(N:Int)+1:=by omega
   obtain⟨u1,d1⟩:∃u,wr.cell? ⟨X,k,none⟩=some u:=by
    rw[cell_row hrow];exact⟨_,List.getElem?_eq_getElem (by omega)⟩
   have ff:∀j,wr.frozen? ⟨X,j,none⟩=false:=fun j=>frozen_of_row _ _ j _ _ hrow
   clear hrow hex hL
   go_wp2
   go_roundw
   case rel=>exact⟨k+1,by go_num,by omega,⟨_,by rw[List.length_set];exact HL.out,set_row1 HRow.out _ _⟩,HEx.out.set (p:=⟨X,k,none⟩) (.inl rfl) _⟩
   case measure=>simp[intOf];omega
  ·obtain rfl:k=N+1:=by omega
   have k1:((N+1:Nat):Int)=(N:Int)+1:=by omega
   rw[k1]
   clear hrow hex hL k1
   go_wp2_with fail
   refine (HU.out _ _).mono ?_
   rintro e w6 ⟨rfl,rfl⟩
   go_wp2
   go_ret
   have hN:=HN.out
   have s2:=HB2.out.size
   have s3:=HS3.out
   have s4:=HE4.out.size
   have s5:w4.heap.size≤w5.heap.size:=HB5.out.size
   have s6:=HEx.out.size
   have hb45:Below w4.heap.size w4 w5:=⟨HB5.out.os,HB5.out.tape,HB5.out.output,HB5.out.size,fun j hj=>HB5.out.block j hj⟩
   have h36:Ex (fun j=>j=R∨j=X) w3 w6:=((HE4.out.mono (fun j _ h=>.inl h)).trans (Ex.of_below hb45)).trans (HEx.out.mono (fun j _ h=>.inr h))
   obtain⟨t1,t2,t3⟩:=HN'.out
   refine⟨by simp,?_,rv,okTo ok W2 w3,⟨?_,?_,t1,t2⟩,fun j hj=>?_⟩
   ·refine⟨h36.os.trans HE3.out.os,h36.tape.trans HE3.out.tape,h36.output.trans HE3.out.output,by omega,fun j hj hx=>?_⟩
    rw[h36.block j (by omega) (fun h=>by rcases h with h|h;exact hx (.inr h);omega)]
    exact HE3.out.block j hj (fun e=>hx (.inl e))
   ·refine HT3.out.ex h36 (fun h=>by rcases h with h|h;exact HD.out.ne h;have:=HT.out;omega) (fun j hj h=>?_)
    rcases hj with hj|hj
    ·rcases h with h|h
     ·exact hokR (h ▸ hj)
     ·have:=(HD.out.tree.blk j hj).1;omega
    ·have h1:W2.heap.size≤j:=hj.1
     have:=HRl.out
     have hlX:X<W2.heap.size:=(aGe.1 HF2.out.2.2).1
     rcases h with h|h<;>omega
   ·refine (HR4.out.keep hb45).same (HEx.out.block R (by have:=HRl.out;omega) (by have:=HRl.out;show R≠X;omega)) (fun j cs t fr ht hc=>?_)
    rw[HEx.out.block j (aGe.1 hc).1 (fun e=>by
     rw[show j=X from e,HX5.out] at hc
     injection hc with hc
     injection hc with _ hc _
     rcases ht with ht|ht<;>rw[ht] at hc<;>exact absurd hc (by decide))]
    exact hc
   ·rcases hj with hj|hj
    ·exact .inl hj
    ·have h1:W2.heap.size≤j:=hj.1
     right;omega
def gE (n:Nd)(s:ByteArray):Ending:=if s.size≤64 then gotE (n.look (pathN s)) else .returned (.tuple #[.string e0,.int .i64 8])
theorem gE_form (n:Nd)(s:ByteArray):∃(a:ByteArray) (c:Int),gE n s=.returned (.tuple #[.string a,.int .i64 c]):=by
 unfold gE
 split
 ·obtain⟨a,c,h,_⟩:=gotE_form (n.look (pathN s))
  exact⟨a,c,h⟩
 ·exact⟨_,_,rfl⟩
theorem cGet_both {ok:Nat→Prop}{T R:Nat}{st S lv:Value}{n:Nd}{w:World}(hD:Duo ok w T R st S lv n)(s:ByteArray) :
  Calls Tryz.prog 34 #[ptr T,.string s] w fun e w' => e=gE n s∧Below w.heap.size w w' := by
 unfold gE
 by_cases h:s.size≤64
 ·rw[if_pos h]
  exact cGet_any HkC ok T st n s w hD.tree hD.tok h
 ·rw[if_neg h]
  exact cGet_long T s w h
theorem rtGet_both {ok:Nat→Prop}{T R:Nat}{st S lv:Value}{n:Nd}{w:World}(hD:Duo ok w T R st S lv n)(s:ByteArray)(hl:(n.flat []).length≤100000000) :
  Calls Tryz.prog 35 #[.pointer (some ⟨R,0,none⟩),.string s] w fun e w' => e=gE n s∧Below w.heap.size w w' := by
 unfold gE
 by_cases h:s.size≤64
 ·rw[if_pos h]
  exact rtGet_any S lv R n s w hD.ref hD.tok h hl
 ·rw[if_neg h]
  exact rtGet_long R s w h
theorem asks_get_any (ok:Nat→Prop)(B T R:Nat)(st S lv:Value)(n:Nd)(on z:Int)(s:ByteArray)(pv kv:Value)(w:World)(hD:Duo ok w T R st S lv n)(hl:(n.flat []).length≤100000000) :
  Calls Tryz.prog 16 #[.pointer (some ⟨B,0,none⟩),.agg #[ptr T,ptr R],opV 3 on s z pv kv] w fun e w' => e=.returned (.bool true)∧Below w.heap.size w w' := by
 have hG:=fun W (hW:Below w.heap.size w W)=>cGet_both (hD.keep hW) s
 have hR:=fun W (hW:Below w.heap.size w W)=>rtGet_both (hD.keep hW) s hl
 obtain⟨a,c,hE⟩:=gE_form n s
 rw[hE] at hG hR
 have HG:=hide hG
 have HR:=hide hR
 have HU:=hide num_any
 clear hG hE hR hD hl
 obtain⟨x4,x5,hb0⟩:=two_boxes w #[.pointer (some ⟨T,0,none⟩),.pointer (some ⟨R,0,none⟩)] #[.int .i64 3,.int .i64 on,.string s,.int .i64 z,pv,kv] 51 40
 have HX:=hide (And.intro x4 x5)
 have HB0:=hide hb0
 clear x4 x5 hb0
 unfold ptr opV at *
 go_enter Tryz.func16,Tryz.ntmps16
 go_wp2_with fail
 generalize ((w.alloc (.cells #[.pointer (some ⟨T,0,none⟩),.pointer (some ⟨R,0,none⟩)] 51)).alloc (.cells #[.int .i64 3,.int .i64 on,.string s,.int .i64 z,pv,kv] 40))=W0 at *
 refine (HG.out W0 HB0.out).mono ?_
 rintro e w1 ⟨rfl,hb1⟩
 have HB1:Hid (Below w.heap.size w w1):=HB0.out.trans (hb1.mono HB0.out.size)
 have y4:=(hb1.block _ (aGe.1 HX.out.1).1).trans HX.out.1
 have y5:=(hb1.block _ (aGe.1 HX.out.2).1).trans HX.out.2
 have c41:w1.cell? ⟨w.heap.size,1,none⟩=some (.pointer (some ⟨R,0,none⟩)):=cell_of_row _ _ 1 _ _ (0,0) y4
 have c52:w1.cell? ⟨w.heap.size+1,2,none⟩=some (.string s):=cell_of_row _ _ 2 _ _ (0,0) y5
 clear hb1 y4 y5
 go_wp2_with fail
 refine (HR.out w1 HB1.out).mono ?_
 rintro e w2 ⟨rfl,hb2⟩
 have HB2:Hid (Below w.heap.size w w2):=HB1.out.trans (hb2.mono HB1.out.size)
 clear hb2 c41 c52
 go_wp2_with fail
 refine (HU.out _ _).mono ?_
 rintro e w3 ⟨rfl,rfl⟩
 go_wp2
 go_ret
 exact⟨by simp,HB2.out⟩
def RootOut (lo B:Nat)(cs:Array Value)(rts:Value)(m:Nat)(ss:List Value)(n:Nd)(w w' : World):Prop:=Below lo w w' ∧
   (∀(k:Nat) (o:Obj),w.heap[k]? = some o→k≠B→some k≠rts.ownBlock→(∀cs t fr,o=.cells cs t fr→t≠282∧t≠285)→w'.heap[k]? = some o) ∧
   (∀(ok' : Nat→Prop) (q:Nd) (v:Value),(∀k,ok' k→k≠B∧some k≠rts.ownBlock)→NdAt HkC ok' w q v→NdAt HkC ok' w' q v) ∧
   ∃rts', w'.heap[B]? = some (.cells (cs.setIfInBounds 10 rts') 55 (0,0))∧w'.ownsRow lo 9 1 rts' (m+1) (ss++[.string (rootOf n)])∧∀k,rts'.ownBlock=some k→rts.ownBlock=some k∨w.heap.size≤k
theorem RT.keepH {ok:Nat→Prop}{w w' : World}{T:Nat}{S lv:Value}{n:Nd}(h:RT w T S lv n)(hk:KeepH ok w w'):RT w' T S lv n:=by
 refine h.same ?_ (fun k cs t fr ht hc=>hk.cells hc (by rcases ht with ht|ht<;>rw[ht]<;>decide) (by rcases ht with ht|ht<;>rw[ht]<;>decide))
 rw[hk.cells h.box (by decide) (by decide),h.box]
theorem asks_root_any (ok:Nat→Prop)(B T R lo m:Nat)(cs:Array Value)(st S lv rts:Value)(ss:List Value)(n:Nd)(on z:Int)(s:ByteArray)(pv kv:Value)(w:World)(hD:Duo ok w T R st S lv n)(hTb:TbZ w)(hl:(n.flat []).length≤100000000)
  (hB:w.heap[B]? = some (.cells cs 55 (0,0))) (hc10:cs[10]? = some rts) (hown:w.ownsRow lo 9 1 rts m ss) (h3:3≤lo) (hlo:lo≤B) (hok:∀k,ok k→lo≤k) (hm:m≤100000000) :
  Calls Tryz.prog 16 #[.pointer (some ⟨B,0,none⟩),.agg #[ptr T,ptr R],opV 4 on s z pv kv] w fun e w' => e=.returned (.bool true)∧RootOut lo B cs rts m ss n w w' := by
 obtain⟨i0,hi,hz0,hz1,hz2⟩:=info_parts infoS1
 obtain⟨va,vc,rfl⟩:=ownsRow_slice hown
 have HP:=hide (fun W (hW:Below w.heap.size w W)=>cRoot_any ok T st n W (hD.tree.keep hW) hD.tok (hTb.keep hW) (fun k hk=>Nat.le_trans h3 (hok k hk)))
 have HR:=hide (fun W W' (hW:Below w.heap.size w W) (hW' : KeepH ok W W')=>rtRoot_any R S lv n W' ((hD.ref.keep hW).keepH hW') hD.tok hl)
 have HBx:=hide hB
 have HC:=hide hc10
 have HO:=hide hown
 have HBl:Hid (B<w.heap.size):=(aGe.1 hB).1
 have HOk:=hide hok
 clear hD hTb hl hB hown hok hc10
 obtain⟨x4,x5,hb0⟩:=two_boxes w #[.pointer (some ⟨T,0,none⟩),.pointer (some ⟨R,0,none⟩)] #[.int .i64 4,.int .i64 on,.string s,.int .i64 z,pv,kv] 51 40
 have HX:=hide (And.intro x4 x5)
 have HB0:=hide hb0
 clear x4 x5 hb0
 unfold ptr opV at *
 go_enter Tryz.func16,Tryz.ntmps16
 go_wp2_with fail
 generalize ((w.alloc (.cells #[.pointer (some ⟨T,0,none⟩),.pointer (some ⟨R,0,none⟩)] 51)).alloc (.cells #[.int .i64 4,.int .i64 on,.string s,.int .i64 z,pv,kv] 40))=W0 at *
 refine (HP.out W0 HB0.out).mono ?_
 rintro e w1 ⟨rfl,hk1⟩
 have HK1:=hide hk1
 have y4:=hk1.cells HX.out.1 (by decide) (by decide)
 have c41:w1.cell? ⟨w.heap.size,1,none⟩=some (.pointer (some ⟨R,0,none⟩)):=cell_of_row _ _ 1 _ _ (0,0) y4
 clear hk1 y4
 go_wp2_with fail
 refine (HR.out W0 w1 HB0.out HK1.out).mono ?_
 rintro e w2 ⟨rfl,hb2⟩
 have HB2:=hide hb2
 clear hb2 c41
 have HC2:Hid (∀(k:Nat) (o:Obj),w.heap[k]? = some o→(∀cs t fr,o=.cells cs t fr→t≠282∧t≠285)→w2.heap[k]? = some o):=fun k o hk h1=>by
  have a:=(HB0.out.block k (aGe.1 hk).1).trans hk
  have b:=HK1.out.other k o a h1
  exact (HB2.out.block k (aGe.1 b).1).trans b
 have HN2:Hid (∀(ok' : Nat→Prop) (q:Nd) (v:Value),NdAt HkC ok' w q v→NdAt HkC ok' w2 q v):=fun ok' q v h=>(HK1.out.node _ _ _ (h.keep HB0.out)).keep HB2.out
 have s0:=HB0.out.size
 have s1:=HK1.out.size
 have s2:=HB2.out.size
 have HSz:Hid (w.heap.size≤w2.heap.size):=by show _≤_;omega
 have HBl2:Hid (Below lo w w2):=((HB0.out.mono (by have:=HBl.out;omega)).trans (HK1.out.below (by have:=HBl.out;omega) HOk.out)).trans (HB2.out.mono (by have:=HBl.out;omega))
 have hBx2:=HC2.out B _ HBx.out (fun cs' t' fr' e=>by
  injection e with _ e _
  rw[←e]
  exact⟨by decide,by decide⟩)
 have c10:w2.cell? ⟨B,10,none⟩=some (.slice va m vc):=(cell_of_row _ _ 10 _ _ (0,0) hBx2).trans HC.out
 have f10:w2.frozen? ⟨B,10,none⟩=false:=frozen_of_row _ _ 10 _ _ hBx2
 have hown2:w2.ownsRow lo 9 1 (.slice va m vc) m ss:=own_far HO.out (fun g hg hl=>by
  obtain⟨_,cur,hc⟩:=ownsRow_type HO.out g hg
  rw[hc]
  exact HC2.out g _ hc (fun cs' t' fr' e=>by
   injection e with _ e _
   rw[←e]
   exact⟨by decide,by decide⟩))
 have hbv:some B≠(Value.slice va m vc).ownBlock:=fun e=>by
  obtain⟨_,cur,hc⟩:=ownsRow_type hown2 B e.symm
  rw[hBx2] at hc
  injection hc with hc
  injection hc with _ hc _
  exact absurd hc (by decide)
 have HBv:=hide hbv
 have HO2:=hide hown2
 have HO3:=hide (hown2.alloc (.cells #[.string (rootOf n)] 9))
 have HNews:Hid (∀j u,[Value.string (rootOf n)][j]? = some u→(w2.alloc (.cells #[.string (rootOf n)] 9)).cell? ((⟨w2.heap.size,0,none⟩:Addr).add j)=some u):=World.news_of_block (heap_alloc_new w2 (.cells #[.string (rootOf n)] 9))
 have HLo:Hid (lo≤(w2.alloc (.cells #[.string (rootOf n)] 9)).heap.size):=by show _≤_;have:=HBl.out;simp;omega
 have HBx2:=hide hBx2
 have HBl3:Hid (B<w2.heap.size):=by show _<_;have:=HBl.out;omega
 have HY:Hid (∀w4:World,(w2.alloc (.cells #[.string (rootOf n)] 9)).grownBy w4 (Value.slice va m vc).ownBlock→w4.cell? ⟨B,10,none⟩=some (.slice va m vc)∧w4.frozen? ⟨B,10,none⟩=false):=fun w4 h=>by
  have hb4:w4.heap[B]? = w2.heap[B]?:=by rw[h.block B (by have:=HBl3.out;simp;omega) HBv.out,Below.heap_alloc _ _ _ HBl3.out]
  exact⟨(World.cell?_of_block hb4).trans c10,(World.frozen?_of_block hb4).trans f10⟩
 clear s0 s1 s2 hBx2 hown2 hbv
 go_wp2_with (at_builtin;go_must (refine wpList_append_lies _ rfl (.tmp 59) (.tmp 61) 38 rfl lo 9 i0 _ 1 16 Tryz.underlying38 hi hz0 hz1 hz2 rfl (by omega) (.slice va m vc) m _ rfl HO3.out ⟨w2.heap.size,0,none⟩ 1 1 [.string (rootOf n)] rfl rfl HNews.out (by simp[Value.oneCell']) (by omega) (by unfold maxLen;omega) (by omega) HLo.out _ rfl ?_);intro g4 c4 w4 ho4 hg4 hat4 hlt4;go_must (have HX4:=hide (And.intro ho4 hg4));go_must (have HA4:=hide hat4);clear ho4 hg4 hat4 hlt4;go_must (obtain⟨y54,f54⟩:=HY.out w4 HX4.out.2))
 go_ret
 have hBx4:w4.heap[B]? = some (.cells cs 55 (0,0)):=by
  rw[HX4.out.2.block B (by have:=HBl3.out;simp;omega) HBv.out,Below.heap_alloc _ _ _ HBl3.out]
  exact HBx2.out
 have hlo2:lo≤w2.heap.size:=by have:=HBl3.out;omega
 have hsame:∀k,k<w2.heap.size→k≠B→some k≠(Value.slice va m vc).ownBlock→(w4.setCell ⟨B,10,none⟩ (Value.slice (some ⟨g4,0,none⟩) (m+1) c4)).heap[k]? = w2.heap[k]?:=fun k hk h1 h2=>by
  rw[heap_setCell_other _ _ _ _ (by exact h1),HX4.out.2.block k (by simp;omega) h2,Below.heap_alloc _ _ _ hk]
 refine⟨rfl,?_,fun k o hk h1 h2 h3=>?_,fun ok' q v hok h=>?_,_,heap_setCell_same w4 B 10 _ 55 _ hBx4,?_,fun k hk=>?_⟩
 ·have hb24:Below lo w2 w4:=((below_alloc w2 _).mono hlo2).grown HX4.out.2 HLo.out (own_ge HO3.out (Nat.le_refl _))
  exact (HBl2.out.trans hb24).setCell (p:=⟨B,10,none⟩) hlo _
 ·have a:=HC2.out k o hk h3
  rw[hsame k (aGe.1 a).1 h1 h2]
  exact a
 ·exact NdAt.keepIn (fun b hb hbl=>hsame b hbl (hok b hb).1 (hok b hb).2) _ _ (HN2.out _ _ _ h)
 ·refine own_far HX4.out.1 (fun g hg hl=>?_)
  obtain⟨_,cur,hc⟩:=ownsRow_type HX4.out.1 g hg
  rw[heap_setCell_other _ _ _ _ (fun e=>by
   have e:g=B:=e
   rw[e,hBx4] at hc
   injection hc with hc
   injection hc with _ hc _
   exact absurd hc (by decide))]
 ·obtain rfl:g4=k:=by simpa[Value.ownBlock] using hk
  rcases HA4.out with h|h
  ·exact .inl h
  ·right
   have h1:=HSz.out
   simp at h
   omega
theorem eachR_len (n:Nd)(s:ByteArray)(most:Int):(eachR n s most).length≤100:=by
 unfold eachR
 rw[List.length_take]
 omega
def EachOut (lo B:Nat)(cs:Array Value)(L:Value)(N q:Nat)(rows:List Value)(w w' : World):Prop:=Ex (fun k=>k=B∨some k=L.ownBlock) w w' ∧ ∃L' lv x y z,∃n:Nat,n≤100∧w'.heap[B]? = some (.cells (cs.setIfInBounds 3 L') 55 (0,0))∧w'.ownsRow lo 27 1 L' (N+4) (rows++[lv,x,y,z])∧Mk2 33 w' lv n (markS q)∧Mk2 33 w' x (n+1) (markS q)∧Mk2 33 w' y (n+2) (markS q)∧Mk2 33 w' z (n+3) (markS q)∧∀k,L'.ownBlock=some k→L.ownBlock=some k∨w.heap.size≤k
theorem eachOut_mk {lo B:Nat}{cs:Array Value}{L lv:Value}{N q n:Nat}{rows:List Value}{w w4 w' : World}(hb:Below w.heap.size w w4)(hn:n≤100)(hlv:∀k,lv.ownBlock=some k→w.heap.size≤k)(P:ListPost lo 33 27 55 3 w4 w' B cs L N rows lv n (markS q)):EachOut lo B cs L N q rows w w' := by
 have P2:=P.below hb
 obtain⟨L', x,y,z,h1,h2,h3,h4,h5,h6,h7,_⟩:=P2.ends
 refine⟨P2.ex.mono (fun k hk hx=>?_),L', lv,x,y,z,n,hn,h1,h2,h3,h4,h5,h6,h7⟩
 rcases hx with hx|hx|hx
 ·exact .inl hx
 ·have:=hlv k hx.symm;omega
 ·exact .inr hx
theorem asks_each_any (ok:Nat→Prop)(B T R lo M N q:Nat)(cs:Array Value)(S lv L:Value)(rows:List Value)(n:Nd)(on z:Int)(s:ByteArray)(pv kv:Value)(w:World)(hD:Duo ok w T R (.map (some M)) S lv n)(hl:(n.flat []).length≤100000000)(hs:s.size≤2000000)(hz1:-9223372036854775808≤z)(hz2:z≤9223372036854775807)
  (hB:w.heap[B]? = some (.cells cs 55 (0,0))) (hc3:cs[3]? = some L) (h2:w.ownsRow lo 27 1 L N rows) (hq:(N:Int) / 4=(q:Int)) (hN:N≤10000000) (hlo:lo≤w.heap.size) :
  Calls Tryz.prog 16 #[.pointer (some ⟨B,0,none⟩),.agg #[ptr T,ptr R],opV 5 on s z pv kv] w fun e w' => e=.returned (.bool true)∧EachOut lo B cs L N q rows w w' := by
 have HE:=hide (fun W (hW:Below w.heap.size w W)=>cEach_any HkC ok T M n s z W (hD.tree.keep hW) hD.tok hD.keys (by omega) hz1 hz2)
 have HR:=hide (fun W (hW:Below w.heap.size w W)=>rtEach_any S lv R n s z W (hD.ref.keep hW) hD.tok hD.keys hs hl)
 have HSame:=hide (each_same hD.keys s z)
 have HLen:=hide (eachR_len n s z)
 have HPg:=hide (fun (W:World) (u:Value) (m:Nat) (xs:List Value) (hW:Below w.heap.size w W) (ho:W.ownsRow w.heap.size 33 2 u m xs) (hm:m≤100)=>pairs_any lo L B cs N q rows u m xs W ((hW.block B (aGe.1 hB).1).trans hB) hc3 (own_far h2 (fun k _ hk=>hW.block k hk)) hq hN (own_base ho hlo) (by omega) (Nat.le_trans hlo hW.size))
 have HSp:=hide (fun ao bo ca cb L W ha hb hl=>samePairs_big ao bo ca cb L W ha hb hl)
 have HU:=hide num_any
 clear hD hl hs hB hc3 h2 hq hN hlo hz1 hz2
 obtain⟨x4,x5,hb0⟩:=two_boxes w #[.pointer (some ⟨T,0,none⟩),.pointer (some ⟨R,0,none⟩)] #[.int .i64 5,.int .i64 on,.string s,.int .i64 z,pv,kv] 51 40
 have HX:=hide (And.intro x4 x5)
 have HB0:=hide hb0
 clear x4 x5 hb0
 unfold ptr opV at *
 go_enter Tryz.func16,Tryz.ntmps16
 go_wp2_with fail
 generalize ((w.alloc (.cells #[.pointer (some ⟨T,0,none⟩),.pointer (some ⟨R,0,none⟩)] 51)).alloc (.cells #[.int .i64 5,.int .i64 on,.string s,.int .i64 z,pv,kv] 40))=W0 at *
 refine (HE.out W0 HB0.out).mono ?_
 rintro e w1 ⟨u,rfl,ho1,hb1⟩
 have HB1:Hid (Below w.heap.size w w1):=HB0.out.trans (hb1.mono HB0.out.size)
 have y4:=(hb1.block _ (aGe.1 HX.out.1).1).trans HX.out.1
 have y5:=(hb1.block _ (aGe.1 HX.out.2).1).trans HX.out.2
 have c41:w1.cell? ⟨w.heap.size,1,none⟩=some (.pointer (some ⟨R,0,none⟩)):=cell_of_row _ _ 1 _ _ (0,0) y4
 have c52:w1.cell? ⟨w.heap.size+1,2,none⟩=some (.string s):=cell_of_row _ _ 2 _ _ (0,0) y5
 have c53:w1.cell? ⟨w.heap.size+1,3,none⟩=some (.int .i64 z):=cell_of_row _ _ 3 _ _ (0,0) y5
 rw[HSame.out] at ho1
 have HO1:Hid (w1.ownsRow w.heap.size 33 2 u (eachR n s z).length (prC (eachR n s z))):=own_base ho1 HB0.out.size
 clear hb1 y4 y5 ho1
 go_wp2_with fail
 refine (HR.out w1 HB1.out).mono ?_
 rintro e w2 ⟨u2,rfl,ho2,hb2⟩
 have HB2:Hid (Below w.heap.size w w2):=HB1.out.trans (hb2.mono HB1.out.size)
 have HO12:Hid (w2.ownsRow w.heap.size 33 2 u (eachR n s z).length (prC (eachR n s z))):=own_far HO1.out (fun k _ hk=>hb2.block k hk)
 have HO2:=hide ho2
 clear hb2 ho2 c41 c52 c53
 generalize eachR n s z=E at *
 obtain⟨ua,uc,rfl⟩:=ownsRow_slice HO12.out
 obtain⟨va,vc,rfl⟩:=ownsRow_slice HO2.out
 have HS2:=hide (HSp.out ua va uc vc E w2 (Prs.ofRow HO12.out) (Prs.ofRow HO2.out) (by have:=HLen.out;omega))
 go_wp2_with fail
 refine HS2.out.mono ?_
 rintro e w3 ⟨rfl,hb3⟩
 have HB3:Hid (Below w.heap.size w w3):=HB2.out.trans (hb3.mono HB2.out.size)
 have HP3:=hide (HPg.out w3 (.slice ua E.length uc) E.length (prC E) HB3.out (own_far HO12.out (fun k _ hk=>hb3.block k hk)) HLen.out)
 clear hb3
 go_wp2_with fail
 refine HP3.out.mono ?_
 rintro e w4 ⟨rfl,hpost⟩
 have HPo:=hide hpost
 clear hpost
 go_wp2_with fail
 refine (HU.out _ _).mono ?_
 rintro e w5 ⟨rfl,rfl⟩
 go_wp2
 go_ret
 exact⟨rfl,eachOut_mk HB3.out HLen.out (fun k hk=>own_ge HO12.out (Nat.le_refl _) k hk) HPo.out⟩
theorem step_put0 (P:World→Prop)(B:Nat)(a:Addr)(ro:Option Addr)(on z:Int)(s:ByteArray)(pv kv:Value)(w:World)(hon:(on.tmod 2 != 0)=false)(h6:w.cell? ⟨B,6,none⟩=some (.pointer (some a)))(h7:w.cell? ⟨B,7,none⟩=some (.pointer ro))
  (hC:∀W,Below w.heap.size w W→Calls Tryz.prog 27 #[.pointer (some ⟨B,0,none⟩),.agg #[.pointer (some a),.pointer ro],opV 1 on s z pv kv] W fun e w' => e=.returned (.bool true)∧P w') :
  Calls Tryz.prog 14 #[.pointer (some ⟨B,0,none⟩),opV 1 on s z pv kv] w fun e w' => e=.returned (.bool true)∧P w' := by
 have HC:=hide hC
 have hlt:B<w.heap.size:=World.block_lt_of_cell? w _ h6
 obtain⟨_,_,hb0⟩:=two_boxes w #[.int .i64 1,.int .i64 on,.string s,.int .i64 z,pv,kv] #[.pointer (some a),.pointer ro] 40 51
 have HB0:=hide hb0
 have q6:∀o,(w.alloc o).cell? ⟨B,6,none⟩=some (.pointer (some a)):=fun o=>by rw[World.cell?_alloc_lt _ _ _ hlt];exact h6
 have q7:∀o,(w.alloc o).cell? ⟨B,7,none⟩=some (.pointer ro):=fun o=>by rw[World.cell?_alloc_lt _ _ _ hlt];exact h7
 clear hC h6 h7 hb0 hlt
 unfold opV at *
 go_enter Tryz.func14,Tryz.ntmps14
 go_wp2_with fail
 refine (HC.out _ HB0.out).mono ?_
 rintro e w1 ⟨rfl,h1⟩
 have H1:=hide h1
 clear h1
 go_wp2
 go_ret
 exact⟨rfl,H1.out⟩
theorem step_del0 (P:World→Prop)(B:Nat)(a:Addr)(ro:Option Addr)(on z:Int)(s:ByteArray)(pv kv:Value)(w:World)(hon:(on.tmod 2 != 0)=false)(h6:w.cell? ⟨B,6,none⟩=some (.pointer (some a)))(h7:w.cell? ⟨B,7,none⟩=some (.pointer ro))
  (hC:∀W,Below w.heap.size w W→Calls Tryz.prog 27 #[.pointer (some ⟨B,0,none⟩),.agg #[.pointer (some a),.pointer ro],opV 2 on s z pv kv] W fun e w' => e=.returned (.bool true)∧P w') :
  Calls Tryz.prog 14 #[.pointer (some ⟨B,0,none⟩),opV 2 on s z pv kv] w fun e w' => e=.returned (.bool true)∧P w' := by
 have HC:=hide hC
 have hlt:B<w.heap.size:=World.block_lt_of_cell? w _ h6
 obtain⟨_,_,hb0⟩:=two_boxes w #[.int .i64 2,.int .i64 on,.string s,.int .i64 z,pv,kv] #[.pointer (some a),.pointer ro] 40 51
 have HB0:=hide hb0
 have q6:∀o,(w.alloc o).cell? ⟨B,6,none⟩=some (.pointer (some a)):=fun o=>by rw[World.cell?_alloc_lt _ _ _ hlt];exact h6
 have q7:∀o,(w.alloc o).cell? ⟨B,7,none⟩=some (.pointer ro):=fun o=>by rw[World.cell?_alloc_lt _ _ _ hlt];exact h7
 clear hC h6 h7 hb0 hlt
 unfold opV at *
 go_enter Tryz.func14,Tryz.ntmps14
 go_wp2_with fail
 refine (HC.out _ HB0.out).mono ?_
 rintro e w1 ⟨rfl,h1⟩
 have H1:=hide h1
 clear h1
 go_wp2
 go_ret
 exact⟨rfl,H1.out⟩
theorem step_get0 (P:World→Prop)(B:Nat)(a:Addr)(ro:Option Addr)(on z:Int)(s:ByteArray)(pv kv:Value)(w:World)(hon:(on.tmod 2 != 0)=false)(h6:w.cell? ⟨B,6,none⟩=some (.pointer (some a)))(h7:w.cell? ⟨B,7,none⟩=some (.pointer ro))
  (hC:∀W,Below w.heap.size w W→Calls Tryz.prog 16 #[.pointer (some ⟨B,0,none⟩),.agg #[.pointer (some a),.pointer ro],opV 3 on s z pv kv] W fun e w' => e=.returned (.bool true)∧P w') :
  Calls Tryz.prog 14 #[.pointer (some ⟨B,0,none⟩),opV 3 on s z pv kv] w fun e w' => e=.returned (.bool true)∧P w' := by
 have HC:=hide hC
 have hlt:B<w.heap.size:=World.block_lt_of_cell? w _ h6
 obtain⟨_,_,hb0⟩:=two_boxes w #[.int .i64 3,.int .i64 on,.string s,.int .i64 z,pv,kv] #[.pointer (some a),.pointer ro] 40 51
 have HB0:=hide hb0
 have q6:∀o,(w.alloc o).cell? ⟨B,6,none⟩=some (.pointer (some a)):=fun o=>by rw[World.cell?_alloc_lt _ _ _ hlt];exact h6
 have q7:∀o,(w.alloc o).cell? ⟨B,7,none⟩=some (.pointer ro):=fun o=>by rw[World.cell?_alloc_lt _ _ _ hlt];exact h7
 clear hC h6 h7 hb0 hlt
 unfold opV at *
 go_enter Tryz.func14,Tryz.ntmps14
 go_wp2_with fail
 refine (HC.out _ HB0.out).mono ?_
 rintro e w1 ⟨rfl,h1⟩
 have H1:=hide h1
 clear h1
 go_wp2
 go_ret
 exact⟨rfl,H1.out⟩
theorem step_root0 (P:World→Prop)(B:Nat)(a:Addr)(ro:Option Addr)(on z:Int)(s:ByteArray)(pv kv:Value)(w:World)(hon:(on.tmod 2 != 0)=false)(h6:w.cell? ⟨B,6,none⟩=some (.pointer (some a)))(h7:w.cell? ⟨B,7,none⟩=some (.pointer ro))
  (hC:∀W,Below w.heap.size w W→Calls Tryz.prog 16 #[.pointer (some ⟨B,0,none⟩),.agg #[.pointer (some a),.pointer ro],opV 4 on s z pv kv] W fun e w' => e=.returned (.bool true)∧P w') :
  Calls Tryz.prog 14 #[.pointer (some ⟨B,0,none⟩),opV 4 on s z pv kv] w fun e w' => e=.returned (.bool true)∧P w' := by
 have HC:=hide hC
 have hlt:B<w.heap.size:=World.block_lt_of_cell? w _ h6
 obtain⟨_,_,hb0⟩:=two_boxes w #[.int .i64 4,.int .i64 on,.string s,.int .i64 z,pv,kv] #[.pointer (some a),.pointer ro] 40 51
 have HB0:=hide hb0
 have q6:∀o,(w.alloc o).cell? ⟨B,6,none⟩=some (.pointer (some a)):=fun o=>by rw[World.cell?_alloc_lt _ _ _ hlt];exact h6
 have q7:∀o,(w.alloc o).cell? ⟨B,7,none⟩=some (.pointer ro):=fun o=>by rw[World.cell?_alloc_lt _ _ _ hlt];exact h7
 clear hC h6 h7 hb0 hlt
 unfold opV at *
 go_enter Tryz.func14,Tryz.ntmps14
 go_wp2_with fail
 refine (HC.out _ HB0.out).mono ?_
 rintro e w1 ⟨rfl,h1⟩
 have H1:=hide h1
 clear h1
 go_wp2
 go_ret
 exact⟨rfl,H1.out⟩
theorem step_each0 (P:World→Prop)(B:Nat)(a:Addr)(ro:Option Addr)(on z:Int)(s:ByteArray)(pv kv:Value)(w:World)(hon:(on.tmod 2 != 0)=false)(h6:w.cell? ⟨B,6,none⟩=some (.pointer (some a)))(h7:w.cell? ⟨B,7,none⟩=some (.pointer ro))
  (hC:∀W,Below w.heap.size w W→Calls Tryz.prog 16 #[.pointer (some ⟨B,0,none⟩),.agg #[.pointer (some a),.pointer ro],opV 5 on s z pv kv] W fun e w' => e=.returned (.bool true)∧P w') :
  Calls Tryz.prog 14 #[.pointer (some ⟨B,0,none⟩),opV 5 on s z pv kv] w fun e w' => e=.returned (.bool true)∧P w' := by
 have HC:=hide hC
 have hlt:B<w.heap.size:=World.block_lt_of_cell? w _ h6
 obtain⟨_,_,hb0⟩:=two_boxes w #[.int .i64 5,.int .i64 on,.string s,.int .i64 z,pv,kv] #[.pointer (some a),.pointer ro] 40 51
 have HB0:=hide hb0
 have q6:∀o,(w.alloc o).cell? ⟨B,6,none⟩=some (.pointer (some a)):=fun o=>by rw[World.cell?_alloc_lt _ _ _ hlt];exact h6
 have q7:∀o,(w.alloc o).cell? ⟨B,7,none⟩=some (.pointer ro):=fun o=>by rw[World.cell?_alloc_lt _ _ _ hlt];exact h7
 clear hC h6 h7 hb0 hlt
 unfold opV at *
 go_enter Tryz.func14,Tryz.ntmps14
 go_wp2_with fail
 refine (HC.out _ HB0.out).mono ?_
 rintro e w1 ⟨rfl,h1⟩
 have H1:=hide h1
 clear h1
 go_wp2
 go_ret
 exact⟨rfl,H1.out⟩
theorem step_put1 (P:World→Prop)(B:Nat)(a:Addr)(ro:Option Addr)(on z:Int)(s:ByteArray)(pv kv:Value)(w:World)(hon:(on.tmod 2 != 0)=true)(h6:w.cell? ⟨B,8,none⟩=some (.pointer (some a)))(h7:w.cell? ⟨B,9,none⟩=some (.pointer ro))
  (hC:∀W,Below w.heap.size w W→Calls Tryz.prog 27 #[.pointer (some ⟨B,0,none⟩),.agg #[.pointer (some a),.pointer ro],opV 1 on s z pv kv] W fun e w' => e=.returned (.bool true)∧P w') :
  Calls Tryz.prog 14 #[.pointer (some ⟨B,0,none⟩),opV 1 on s z pv kv] w fun e w' => e=.returned (.bool true)∧P w' := by
 have HC:=hide hC
 have hlt:B<w.heap.size:=World.block_lt_of_cell? w _ h6
 obtain⟨_,_,hb0⟩:=two_boxes w #[.int .i64 1,.int .i64 on,.string s,.int .i64 z,pv,kv] #[.pointer (some a),.pointer ro] 40 51
 have HB0:=hide hb0
 have q6:∀o,(w.alloc o).cell? ⟨B,8,none⟩=some (.pointer (some a)):=fun o=>by rw[World.cell?_alloc_lt _ _ _ hlt];exact h6
 have q7:∀o,(w.alloc o).cell? ⟨B,9,none⟩=some (.pointer ro):=fun o=>by rw[World.cell?_alloc_lt _ _ _ hlt];exact h7
 clear hC h6 h7 hb0 hlt
 unfold opV at *
 go_enter Tryz.func14,Tryz.ntmps14
 go_wp2_with fail
 refine (HC.out _ HB0.out).mono ?_
 rintro e w1 ⟨rfl,h1⟩
 have H1:=hide h1
 clear h1
 go_wp2
 go_ret
 exact⟨rfl,H1.out⟩
theorem step_del1 (P:World→Prop)(B:Nat)(a:Addr)(ro:Option Addr)(on z:Int)(s:ByteArray)(pv kv:Value)(w:World)(hon:(on.tmod 2 != 0)=true)(h6:w.cell? ⟨B,8,none⟩=some (.pointer (some a)))(h7:w.cell? ⟨B,9,none⟩=some (.pointer ro))
  (hC:∀W,Below w.heap.size w W→Calls Tryz.prog 27 #[.pointer (some ⟨B,0,none⟩),.agg #[.pointer (some a),.pointer ro],opV 2 on s z pv kv] W fun e w' => e=.returned (.bool true)∧P w') :
  Calls Tryz.prog 14 #[.pointer (some ⟨B,0,none⟩),opV 2 on s z pv kv] w fun e w' => e=.returned (.bool true)∧P w' := by
 have HC:=hide hC
 have hlt:B<w.heap.size:=World.block_lt_of_cell? w _ h6
 obtain⟨_,_,hb0⟩:=two_boxes w #[.int .i64 2,.int .i64 on,.string s,.int .i64 z,pv,kv] #[.pointer (some a),.pointer ro] 40 51
 have HB0:=hide hb0
 have q6:∀o,(w.alloc o).cell? ⟨B,8,none⟩=some (.pointer (some a)):=fun o=>by rw[World.cell?_alloc_lt _ _ _ hlt];exact h6
 have q7:∀o,(w.alloc o).cell? ⟨B,9,none⟩=some (.pointer ro):=fun o=>by rw[World.cell?_alloc_lt _ _ _ hlt];exact h7
 clear hC h6 h7 hb0 hlt
 unfold opV at *
 go_enter Tryz.func14,Tryz.ntmps14
 go_wp2_with fail
 refine (HC.out _ HB0.out).mono ?_
 rintro e w1 ⟨rfl,h1⟩
 have H1:=hide h1
 clear h1
 go_wp2
 go_ret
 exact⟨rfl,H1.out⟩
theorem step_get1 (P:World→Prop)(B:Nat)(a:Addr)(ro:Option Addr)(on z:Int)(s:ByteArray)(pv kv:Value)(w:World)(hon:(on.tmod 2 != 0)=true)(h6:w.cell? ⟨B,8,none⟩=some (.pointer (some a)))(h7:w.cell? ⟨B,9,none⟩=some (.pointer ro))
  (hC:∀W,Below w.heap.size w W→Calls Tryz.prog 16 #[.pointer (some ⟨B,0,none⟩),.agg #[.pointer (some a),.pointer ro],opV 3 on s z pv kv] W fun e w' => e=.returned (.bool true)∧P w') :
  Calls Tryz.prog 14 #[.pointer (some ⟨B,0,none⟩),opV 3 on s z pv kv] w fun e w' => e=.returned (.bool true)∧P w' := by
 have HC:=hide hC
 have hlt:B<w.heap.size:=World.block_lt_of_cell? w _ h6
 obtain⟨_,_,hb0⟩:=two_boxes w #[.int .i64 3,.int .i64 on,.string s,.int .i64 z,pv,kv] #[.pointer (some a),.pointer ro] 40 51
 have HB0:=hide hb0
 have q6:∀o,(w.alloc o).cell? ⟨B,8,none⟩=some (.pointer (some a)):=fun o=>by rw[World.cell?_alloc_lt _ _ _ hlt];exact h6
 have q7:∀o,(w.alloc o).cell? ⟨B,9,none⟩=some (.pointer ro):=fun o=>by rw[World.cell?_alloc_lt _ _ _ hlt];exact h7
 clear hC h6 h7 hb0 hlt
 unfold opV at *
 go_enter Tryz.func14,Tryz.ntmps14
 go_wp2_with fail
 refine (HC.out _ HB0.out).mono ?_
 rintro e w1 ⟨rfl,h1⟩
 have H1:=hide h1
 clear h1
 go_wp2
 go_ret
 exact⟨rfl,H1.out⟩
theorem step_root1 (P:World→Prop)(B:Nat)(a:Addr)(ro:Option Addr)(on z:Int)(s:ByteArray)(pv kv:Value)(w:World)(hon:(on.tmod 2 != 0)=true)(h6:w.cell? ⟨B,8,none⟩=some (.pointer (some a)))(h7:w.cell? ⟨B,9,none⟩=some (.pointer ro))
  (hC:∀W,Below w.heap.size w W→Calls Tryz.prog 16 #[.pointer (some ⟨B,0,none⟩),.agg #[.pointer (some a),.pointer ro],opV 4 on s z pv kv] W fun e w' => e=.returned (.bool true)∧P w') :
  Calls Tryz.prog 14 #[.pointer (some ⟨B,0,none⟩),opV 4 on s z pv kv] w fun e w' => e=.returned (.bool true)∧P w' := by
 have HC:=hide hC
 have hlt:B<w.heap.size:=World.block_lt_of_cell? w _ h6
 obtain⟨_,_,hb0⟩:=two_boxes w #[.int .i64 4,.int .i64 on,.string s,.int .i64 z,pv,kv] #[.pointer (some a),.pointer ro] 40 51
 have HB0:=hide hb0
 have q6:∀o,(w.alloc o).cell? ⟨B,8,none⟩=some (.pointer (some a)):=fun o=>by rw[World.cell?_alloc_lt _ _ _ hlt];exact h6
 have q7:∀o,(w.alloc o).cell? ⟨B,9,none⟩=some (.pointer ro):=fun o=>by rw[World.cell?_alloc_lt _ _ _ hlt];exact h7
 clear hC h6 h7 hb0 hlt
 unfold opV at *
 go_enter Tryz.func14,Tryz.ntmps14
 go_wp2_with fail
 refine (HC.out _ HB0.out).mono ?_
 rintro e w1 ⟨rfl,h1⟩
 have H1:=hide h1
 clear h1
 go_wp2
 go_ret
 exact⟨rfl,H1.out⟩
theorem step_each1 (P:World→Prop)(B:Nat)(a:Addr)(ro:Option Addr)(on z:Int)(s:ByteArray)(pv kv:Value)(w:World)(hon:(on.tmod 2 != 0)=true)(h6:w.cell? ⟨B,8,none⟩=some (.pointer (some a)))(h7:w.cell? ⟨B,9,none⟩=some (.pointer ro))
  (hC:∀W,Below w.heap.size w W→Calls Tryz.prog 16 #[.pointer (some ⟨B,0,none⟩),.agg #[.pointer (some a),.pointer ro],opV 5 on s z pv kv] W fun e w' => e=.returned (.bool true)∧P w') :
  Calls Tryz.prog 14 #[.pointer (some ⟨B,0,none⟩),opV 5 on s z pv kv] w fun e w' => e=.returned (.bool true)∧P w' := by
 have HC:=hide hC
 have hlt:B<w.heap.size:=World.block_lt_of_cell? w _ h6
 obtain⟨_,_,hb0⟩:=two_boxes w #[.int .i64 5,.int .i64 on,.string s,.int .i64 z,pv,kv] #[.pointer (some a),.pointer ro] 40 51
 have HB0:=hide hb0
 have q6:∀o,(w.alloc o).cell? ⟨B,8,none⟩=some (.pointer (some a)):=fun o=>by rw[World.cell?_alloc_lt _ _ _ hlt];exact h6
 have q7:∀o,(w.alloc o).cell? ⟨B,9,none⟩=some (.pointer ro):=fun o=>by rw[World.cell?_alloc_lt _ _ _ hlt];exact h7
 clear hC h6 h7 hb0 hlt
 unfold opV at *
 go_enter Tryz.func14,Tryz.ntmps14
 go_wp2_with fail
 refine (HC.out _ HB0.out).mono ?_
 rintro e w1 ⟨rfl,h1⟩
 have H1:=hide h1
 clear h1
 go_wp2
 go_ret
 exact⟨rfl,H1.out⟩
theorem step_none0 (B:Nat)(ro:Option Addr)(kind on z:Int)(s:ByteArray)(pv kv:Value)(w:World)(hon:(on.tmod 2 != 0)=false)(h6:w.cell? ⟨B,6,none⟩=some (.pointer none))(h7:w.cell? ⟨B,7,none⟩=some (.pointer ro)) :
  Calls Tryz.prog 14 #[.pointer (some ⟨B,0,none⟩),opV kind on s z pv kv] w fun e w' => e=.returned (.bool true)∧Below w.heap.size w w' := by
 have hlt:B<w.heap.size:=World.block_lt_of_cell? w _ h6
 obtain⟨_,_,hb0⟩:=two_boxes w #[.int .i64 kind,.int .i64 on,.string s,.int .i64 z,pv,kv] #[.pointer none,.pointer ro] 40 51
 have HB0:=hide hb0
 have q6:∀o,(w.alloc o).cell? ⟨B,6,none⟩=some (.pointer none):=fun o=>by rw[World.cell?_alloc_lt _ _ _ hlt];exact h6
 have q7:∀o,(w.alloc o).cell? ⟨B,7,none⟩=some (.pointer ro):=fun o=>by rw[World.cell?_alloc_lt _ _ _ hlt];exact h7
 clear h6 h7 hb0 hlt
 unfold opV at *
 go_enter Tryz.func14,Tryz.ntmps14
 go_wp2
 go_ret
 exact⟨rfl,HB0.out⟩
theorem step_other0 (B:Nat)(a:Addr)(ro:Option Addr)(kind on z:Int)(s:ByteArray)(pv kv:Value)(w:World)(hk:kind≤0)(hon:(on.tmod 2 != 0)=false)(h6:w.cell? ⟨B,6,none⟩=some (.pointer (some a)))(h7:w.cell? ⟨B,7,none⟩=some (.pointer ro)) :
  Calls Tryz.prog 14 #[.pointer (some ⟨B,0,none⟩),opV kind on s z pv kv] w fun e w' => e=.returned (.bool true)∧Below w.heap.size w w' := by
 have hlt:B<w.heap.size:=World.block_lt_of_cell? w _ h6
 obtain⟨_,_,hb0⟩:=two_boxes w #[.int .i64 kind,.int .i64 on,.string s,.int .i64 z,pv,kv] #[.pointer (some a),.pointer ro] 40 51
 have HB0:=hide hb0
 have q6:∀o,(w.alloc o).cell? ⟨B,6,none⟩=some (.pointer (some a)):=fun o=>by rw[World.cell?_alloc_lt _ _ _ hlt];exact h6
 have q7:∀o,(w.alloc o).cell? ⟨B,7,none⟩=some (.pointer ro):=fun o=>by rw[World.cell?_alloc_lt _ _ _ hlt];exact h7
 have k1:¬kind=1:=by omega
 have k2:¬kind=2:=by omega
 have k3:¬kind=3:=by omega
 have k4:¬kind=4:=by omega
 have k5:¬kind=5:=by omega
 have k6:¬kind=6:=by omega
 have k7:¬kind=7:=by omega
 have k8:¬kind=8:=by omega
 have k9:¬kind=9:=by omega
 have k10:¬kind=10:=by omega
 have k11:¬kind=11:=by omega
 clear h6 h7 hb0 hlt hk
 unfold opV at *
 go_enter Tryz.func14,Tryz.ntmps14
 go_wp2
 go_ret
 exact⟨rfl,HB0.out⟩
theorem step_none1 (B:Nat)(ro:Option Addr)(kind on z:Int)(s:ByteArray)(pv kv:Value)(w:World)(hon:(on.tmod 2 != 0)=true)(h6:w.cell? ⟨B,8,none⟩=some (.pointer none))(h7:w.cell? ⟨B,9,none⟩=some (.pointer ro)) :
  Calls Tryz.prog 14 #[.pointer (some ⟨B,0,none⟩),opV kind on s z pv kv] w fun e w' => e=.returned (.bool true)∧Below w.heap.size w w' := by
 have hlt:B<w.heap.size:=World.block_lt_of_cell? w _ h6
 obtain⟨_,_,hb0⟩:=two_boxes w #[.int .i64 kind,.int .i64 on,.string s,.int .i64 z,pv,kv] #[.pointer none,.pointer ro] 40 51
 have HB0:=hide hb0
 have q6:∀o,(w.alloc o).cell? ⟨B,8,none⟩=some (.pointer none):=fun o=>by rw[World.cell?_alloc_lt _ _ _ hlt];exact h6
 have q7:∀o,(w.alloc o).cell? ⟨B,9,none⟩=some (.pointer ro):=fun o=>by rw[World.cell?_alloc_lt _ _ _ hlt];exact h7
 clear h6 h7 hb0 hlt
 unfold opV at *
 go_enter Tryz.func14,Tryz.ntmps14
 go_wp2
 go_ret
 exact⟨rfl,HB0.out⟩
theorem step_other1 (B:Nat)(a:Addr)(ro:Option Addr)(kind on z:Int)(s:ByteArray)(pv kv:Value)(w:World)(hk:kind≤0)(hon:(on.tmod 2 != 0)=true)(h6:w.cell? ⟨B,8,none⟩=some (.pointer (some a)))(h7:w.cell? ⟨B,9,none⟩=some (.pointer ro)) :
  Calls Tryz.prog 14 #[.pointer (some ⟨B,0,none⟩),opV kind on s z pv kv] w fun e w' => e=.returned (.bool true)∧Below w.heap.size w w' := by
 have hlt:B<w.heap.size:=World.block_lt_of_cell? w _ h6
 obtain⟨_,_,hb0⟩:=two_boxes w #[.int .i64 kind,.int .i64 on,.string s,.int .i64 z,pv,kv] #[.pointer (some a),.pointer ro] 40 51
 have HB0:=hide hb0
 have q6:∀o,(w.alloc o).cell? ⟨B,8,none⟩=some (.pointer (some a)):=fun o=>by rw[World.cell?_alloc_lt _ _ _ hlt];exact h6
 have q7:∀o,(w.alloc o).cell? ⟨B,9,none⟩=some (.pointer ro):=fun o=>by rw[World.cell?_alloc_lt _ _ _ hlt];exact h7
 have k1:¬kind=1:=by omega
 have k2:¬kind=2:=by omega
 have k3:¬kind=3:=by omega
 have k4:¬kind=4:=by omega
 have k5:¬kind=5:=by omega
 have k6:¬kind=6:=by omega
 have k7:¬kind=7:=by omega
 have k8:¬kind=8:=by omega
 have k9:¬kind=9:=by omega
 have k10:¬kind=10:=by omega
 have k11:¬kind=11:=by omega
 clear h6 h7 hb0 hlt hk
 unfold opV at *
 go_enter Tryz.func14,Tryz.ntmps14
 go_wp2
 go_ret
 exact⟨rfl,HB0.out⟩
end Go.Proofs.YthdjmldddjljfaaGreatDoor
