/-
  OUR OWN.
-/
import Derived.Test.YthdjmldddjljfaaGreatDoorH20
set_option maxHeartbeats 8000000
set_option maxRecDepth 20000
namespace Go.Proofs.YthdjmldddjljfaaGreatDoor
open Go.RowKit
attribute [local go_sem ↓] Go.wp_at_zero Go.wp_at_succ
theorem FkAt.setRef {Hk:Nd→ByteArray→Prop}{ok:Nat→Prop}{w:World}{bk:Nat}{c:Nat→Nd}{x:ByteArray}(h:FkAt Hk ok w bk c x)(hok:¬ok bk)(i:Nat)(hi:i<16)(n:Nd)(v:Value)(g:ByteArray)(hn:NdAt Hk ok w n v)(hg:g=e0∨(n≠.nil∧Hk n g)):FkAt Hk ok ((w.setCell ⟨bk,i*2,none⟩ v).setCell ⟨bk,i*2+1,none⟩ (.string g)) bk (upd c i n) x:=by
 obtain⟨us,hs,hf,hc⟩:=h
 have hk:∀k,ok k→k<w.heap.size→((w.setCell ⟨bk,i*2,none⟩ v).setCell ⟨bk,i*2+1,none⟩ (.string g)).heap[k]? = w.heap[k]?:=fun k hk _=>by
  have hne:k≠bk:=fun e=>hok (by rw[←e];exact hk)
  rw[Below.heap_setCell _ _ _ _ hne,Below.heap_setCell _ _ _ _ hne]
 refine⟨updV us i v,updV hs i g,⟨?_⟩,fun j hj=>?_⟩
 ·have h1:=heap_setCell_same w bk (i*2) _ 285 v hf.blk
  have h2:=heap_setCell_same _ bk (i*2+1) _ 285 (.string g) h1
  rw[brCells_set us hs x i hi] at h2
  exact h2
 ·unfold upd updV
  by_cases hji:j=i
  ·rw[if_pos hji,if_pos hji,if_pos hji]
   exact⟨NdAt.keepIn hk _ _ hn,hg⟩
  ·rw[if_neg hji,if_neg hji,if_neg hji]
   exact⟨NdAt.keepIn hk _ _ (hc j hj).1,(hc j hj).2⟩
theorem FkAt.mono {Hk:Nd→ByteArray→Prop}{ok ok' : Nat→Prop}{w:World}{bk:Nat}{c:Nat→Nd}{x:ByteArray}(h:FkAt Hk ok w bk c x)(hk:∀k,ok k→ok' k):FkAt Hk ok' w bk c x:=by
 obtain⟨us,hs,hf,hc⟩:=h
 exact⟨us,hs,hf,fun i hi=>⟨NdAt.mono hk _ _ (hc i hi).1,(hc i hi).2⟩⟩
theorem below_ref {B:Nat}{a w:World}(h:Below B a w){R:Nat}(hR:B≤R)(i j:Nat)(v u:Value):Below B a ((w.setCell ⟨R,i,none⟩ v).setCell ⟨R,j,none⟩ u):=(h.setCell (p:=⟨R,i,none⟩) hR v).setCell (p:=⟨R,j,none⟩) hR u
theorem FkAt.refCell {Hk:Nd→ByteArray→Prop}{ok:Nat→Prop}{w:World}{bk:Nat}{c:Nat→Nd}{x:ByteArray}(h:FkAt Hk ok w bk c x)(i:Nat)(hi:i<16):(∃a,w.cell? ⟨bk,i*2,none⟩=some a)∧(∃a,w.cell? ⟨bk,i*2+1,none⟩=some a)∧w.frozen? ⟨bk,i*2,none⟩=false∧w.frozen? ⟨bk,i*2+1,none⟩=false:=by
 obtain⟨us,hs,hf,hc⟩:=h
 exact⟨⟨_,(br_ref hf.blk i hi).1⟩,⟨_,(br_ref hf.blk i hi).2⟩,frozen_of_row w bk _ _ _ hf.blk,frozen_of_row w bk _ _ _ hf.blk⟩
theorem extPut_fork (Hk:Nd→ByteArray→Prop)(hnn:∀n g,Hk n g→n≠.nil)(ok:Nat→Prop)(b:Nat)(st:Value)(dp gp op cap:Nat)(p q:List Nat)(m:Nd)(y:ByteArray)(w:World)(hok:∀k,ok k→k<w.heap.size)(hn:NdAt Hk ok w (.ext q m) (.iface 250 (ptr b)))(hm:m≠.nil)(hp:Nums w (some ⟨gp,op,none⟩) p)(hc:p.length≤cap)(hpl:p.length≤400)(hql:q.length≤400)(hp16:∀i∈p,i<16)(hq16:∀i∈q,i<16)(hsh:shared q p<q.length) :
  Calls Tryz.prog 231 #[ptr b,st,.int .i64 (dp:Int),.slice (some ⟨gp,op,none⟩) p.length cap,.string y] w fun e w' => PutPost Hk ok ((Nd.ext q m).put p y) w e w' := by
 have HPT:Hid ((Nd.ext q m).put p y=((Nd.br (upd (fun _=>.nil) (q.getD (shared q p) 0) (behind q m (shared q p+1))) e0).hang (p.drop (shared q p)) y).ahead (p.take (shared q p))):=by
  show _=_
  simp only[Nd.put]
  rw[if_neg (by omega)]
 have HN:=hide hn
 obtain⟨b', bo,bc,u,h,hb', o1,o2,hb,hq,hb0,hbc,hmn,hmh⟩:=hn
 obtain rfl:b=b' := by simpa[ptr] using hb'
 have hbl:=(aGe.1 hb).1
 have hsr:=shared_le_right q p
 have HS:Hid (Calls Tryz.prog 214 #[.slice bo q.length bc,.slice (some ⟨gp,op,none⟩) p.length cap] w fun e w' => e=.returned (.int .i64 (shared q p:Int))∧Below w.heap.size w w'):=sharedI_any bo (some ⟨gp,op,none⟩) bc cap q p w hq hp (by omega)
 have hi16:q.getD (shared q p) 0 < 16:=by
  have e:q.getD (shared q p) 0=q[shared q p]:=by simp[List.getD_eq_getElem?_getD,hsh]
  rw[e];exact hq16 _ (List.getElem_mem hsh)
 obtain⟨gb,off,hbo,hqc⟩:=hq.at' (shared q p) hsh
 subst hbo
 have hqbl:=World.block_lt_of_cell? w _ hqc
 obtain⟨n,hn⟩:∃n,Hid (shared q p=n):=⟨_,Eq.refl _⟩
 rw[hn.out] at HS HPT hsh hsr hi16 hqc
 obtain⟨i,hi⟩:∃i,Hid (q.getD n 0=i):=⟨_,Eq.refl _⟩
 rw[hi.out] at HPT hi16 hqc
 have hcell:∀W,Below w.heap.size w W→W.cell? ⟨b,0,none⟩=some (.slice (some ⟨gb,off,none⟩) q.length bc)∧W.cell? ⟨gb,off+n,none⟩=some (.int .i64 (i:Int)):=fun W hW =>
  ⟨(hW.cell (p:=⟨b,0,none⟩) hbl).trans (cell_of_row w b 0 _ _ (0,0) hb),(hW.cell (p:=⟨gb,off+n,none⟩) hqbl).trans hqc⟩
 have HC:=hide hcell
 obtain⟨c0,c1⟩:=hcell w (Below.refl _ _)
 have HP:=hide hp
 have HOK:=hide hok
 have n0:(0:Int)≤(n:Int):=by omega
 have n1:(n:Int)<(q.length:Int):=by omega
 have n2:(n:Int)≤(p.length:Int):=by omega
 have n3:(p.length:Int)≤(cap:Int):=by omega
 have n4:((n:Int) == (q.length:Int))=false:=by simp;omega
 have n5:(q.length:Int)≤400:=by omega
 have k1:IntKind.i64.wrap ((n:Int)+1)=(n:Int)+1:=by rw[IntKind.wrap_i64];omega
 have i0:(0:Int)≤(i:Int):=by omega
 have i1:(i:Int)<16:=by omega
 clear hcell hb hq hqc hp hmh hmn hok
 unfold ptr at *
 go_enter Tryz.func231,Tryz.ntmps231
 go_wp2_with fail
 refine HS.out.mono ?_
 rintro e w1 ⟨rfl,hb1⟩
 have HB1:=hide hb1
 obtain⟨d0,d1⟩:=HC.out w1 hb1
 clear hb1 c0 c1
 go_wp2_with fail
 have HF3:Hid (FkAt Hk (fun _=>False) (w1.alloc (.cells #[.nilIface,.string ⟨#[]⟩,.nilIface,.string ⟨#[]⟩,.nilIface,.string ⟨#[]⟩,.nilIface,.string ⟨#[]⟩,.nilIface,.string ⟨#[]⟩,.nilIface,.string ⟨#[]⟩,.nilIface,.string ⟨#[]⟩,.nilIface,.string ⟨#[]⟩,.nilIface,.string ⟨#[]⟩,.nilIface,.string ⟨#[]⟩,.nilIface,.string ⟨#[]⟩,.nilIface,.string ⟨#[]⟩,.nilIface,.string ⟨#[]⟩,.nilIface,.string ⟨#[]⟩,.nilIface,.string ⟨#[]⟩,.nilIface,.string ⟨#[]⟩,.string ⟨#[]⟩] 285)) w1.heap.size (fun _=>.nil) e0):=FkAt.new Hk w1
 have HB3:Hid (Below w.heap.size w (w1.alloc (.cells #[.nilIface,.string ⟨#[]⟩,.nilIface,.string ⟨#[]⟩,.nilIface,.string ⟨#[]⟩,.nilIface,.string ⟨#[]⟩,.nilIface,.string ⟨#[]⟩,.nilIface,.string ⟨#[]⟩,.nilIface,.string ⟨#[]⟩,.nilIface,.string ⟨#[]⟩,.nilIface,.string ⟨#[]⟩,.nilIface,.string ⟨#[]⟩,.nilIface,.string ⟨#[]⟩,.nilIface,.string ⟨#[]⟩,.nilIface,.string ⟨#[]⟩,.nilIface,.string ⟨#[]⟩,.nilIface,.string ⟨#[]⟩,.nilIface,.string ⟨#[]⟩,.string ⟨#[]⟩] 285))):=HB1.out.alloc HB1.out.size _
 have HBK:Hid (w.heap.size≤w1.heap.size):=HB1.out.size
 clear HB1 HS d0 d1
 generalize World.alloc w1 _=W3 at *
 generalize w1.heap.size=bk at *
 obtain⟨f0,f1⟩:=HC.out W3 HB3.out
 have HBe:Hid (Calls Tryz.prog 236 #[.pointer (some ⟨b,0,none⟩),.int .i64 ((n:Int)+1)] W3.drew fun e w4=>∃t4 b4 h4,e=.returned (.agg #[.iface t4 (.pointer (some ⟨b4,0,none⟩)),.string h4])∧W3.heap.size≤w4.heap.size∧Below w.heap.size w w4∧FkAt Hk (fun k=>ok k∨W3.heap.size≤k) w4 bk (fun _=>.nil) e0∧NdAt Hk (fun k=>ok k∨W3.heap.size≤k) w4 (behind q m (n+1)) (.iface t4 (.pointer (some ⟨b4,0,none⟩)))∧(h4=e0∨Hk (behind q m (n+1)) h4)):=by
  have h1:=behind_any Hk ok b q m (n+1) W3.drew (HN.out.keep HB3.out.drew) (fun k hk=>Nat.lt_of_lt_of_le (HOK.out k hk) HB3.out.size) hm (by omega) (by omega)
  rw[Int.natCast_add] at h1
  refine h1.mono ?_
  rintro e w4 ⟨v4,h4,rfl,hn4,hh4,hb4⟩
  have hne4:behind q m (n+1)≠.nil:=by
   unfold behind;split
   ·exact hm
   ·simp
  obtain⟨t4,b4,rfl⟩:=hn4.some hne4
  exact⟨t4,b4,h4,rfl,hb4.size,HB3.out.drew.trans (hb4.mono HB3.out.size),((HF3.out.keep (Below.refl _ _).drew).keep hb4).mono (fun k hk=>hk.elim),hn4,hh4⟩
 have HH2:Hid (∀a l c,l=p.length - n→(∀w5,Below w.heap.size w w5→Nums w5 a (p.drop n))→l≤c→∀w5 c5,W3.heap.size≤w5.heap.size→Below w.heap.size w w5→FkAt Hk (fun k=>ok k∨W3.heap.size≤k) w5 bk c5 e0→Calls Tryz.prog 215 #[.pointer (some ⟨bk,0,none⟩),.slice a l c,.string y] w5 fun e w6=>e=.returned (.tuple #[])∧Below w.heap.size w w6∧∃c6 x6,(Nd.br c5 e0).hang (p.drop n) y=.br c6 x6∧FkAt Hk (fun k=>(ok k∨W3.heap.size≤k)∨w5.heap.size≤k) w6 bk c6 x6):=by
  intro a l c hl ha hc2 w5 c5 hs5 hb5 hf5
  subst hl
  have hbl3:=HF3.out.lt
  have hbk:=HBK.out
  have h:=hang_any Hk (fun k=>ok k∨W3.heap.size≤k) bk c5 e0 a c (p.drop n) y w5 hf5 (fun h=>by rcases h with h|h;{ have:=HOK.out bk h;omega };{ omega }) (ha w5 hb5) (fun i hi=>hp16 i (List.mem_of_mem_drop hi)) (by rw[List.length_drop];exact hc2) (by rw[List.length_drop];omega)
  rw[List.length_drop] at h
  refine h.mono ?_
  rintro e w6 ⟨rfl,hg,c6,x6,he,hf⟩
  exact⟨rfl,hb5.grown hg hb5.size (fun k e=>by injection e with e;rw[←e];exact HBK.out),c6,x6,he,hf⟩
 have HAh:Hid (∀(w5 w6:World),W3.heap.size≤w5.heap.size→Below w.heap.size w w6→∀c6 x6,(Nd.br (upd (fun _=>.nil) i (behind q m (n+1))) e0).hang (p.drop n) y=.br c6 x6→FkAt Hk (fun k=>(ok k∨W3.heap.size≤k)∨w5.heap.size≤k) w6 bk c6 x6→Calls Tryz.prog 216 #[.slice (some ⟨gp,op,none⟩) n cap,.agg #[.iface 252 (.pointer (some ⟨bk,0,none⟩)),.string e0],.iface 252 (.pointer (some ⟨bk,0,none⟩))] w6 fun e w7=>∃v7,e=.returned v7∧NdAt Hk (fun k=>ok k∨w.heap.size≤k) w7 ((Nd.ext q m).put p y) v7∧Below w.heap.size w w7):=by
  intro w5 w6 hs5 hb6 c6 x6 he6 hf6
  have htl:(p.take n).length=n:=by rw[List.length_take];omega
  have h:=ahead_any Hk (some ⟨gp,op,none⟩) cap (p.take n) (.br c6 x6) e0 _ _ w6 ((HP.out.keep hb6 (Nat.le_refl _)).take n) (fun h=>by cases h) (by omega) (by simp only[Nd.plen];omega) (by simp) hf6.node (.inl rfl)
  rw[htl] at h
  refine h.mono ?_
  rintro e w7 ⟨v7,rfl,hn7,hb7⟩
  refine⟨v7,rfl,?_,hb6.trans (hb7.mono hb6.size)⟩
  rw[HPT.out,he6]
  have hs3:=HB3.out.size
  have hsb:=HBK.out
  have hs6:=hb6.size
  refine NdAt.mono (fun k hk=>?_) _ _ hn7
  rcases hk with (((hk|hk)|hk)|hk)|hk
  ·exact .inl hk
  ·exact .inr (by omega)
  ·exact .inr (by omega)
  ·exact .inr (by omega)
  ·exact .inr (by omega)
 have HX5f:Hid (∀(w4:World) (t4 b4:Nat) (h4:ByteArray),W3.heap.size≤w4.heap.size∧Below w.heap.size w w4∧FkAt Hk (fun k=>ok k∨W3.heap.size≤k) w4 bk (fun _=>.nil) e0∧NdAt Hk (fun k=>ok k∨W3.heap.size≤k) w4 (behind q m (n+1)) (.iface t4 (.pointer (some ⟨b4,0,none⟩)))∧(h4=e0∨Hk (behind q m (n+1)) h4)→W3.heap.size≤((w4.setCell ⟨bk,i*2,none⟩ (.iface t4 (.pointer (some ⟨b4,0,none⟩)))).setCell ⟨bk,i*2+1,none⟩ (.string h4)).heap.size∧Below w.heap.size w ((w4.setCell ⟨bk,i*2,none⟩ (.iface t4 (.pointer (some ⟨b4,0,none⟩)))).setCell ⟨bk,i*2+1,none⟩ (.string h4))∧FkAt Hk (fun k=>ok k∨W3.heap.size≤k) ((w4.setCell ⟨bk,i*2,none⟩ (.iface t4 (.pointer (some ⟨b4,0,none⟩)))).setCell ⟨bk,i*2+1,none⟩ (.string h4)) bk (upd (fun _=>.nil) i (behind q m (n+1))) e0):=by
  rintro w4 t4 b4 h4 ⟨k1,k2,k3,k4,k5⟩
  have hbl3:=HF3.out.lt
  have hbk:=HBK.out
  exact⟨by simp[World.setCell];exact k1,below_ref k2 HBK.out _ _ _ _,k3.setRef (fun h=>by rcases h with h|h;{ have:=HOK.out bk h;omega };{ omega }) i hi16 _ _ _ k4 (k5.imp id (fun h=>⟨hnn _ _ h,h⟩))⟩
 by_cases hpc:cap=n
 ·obtain rfl:n=p.length:=by omega
  subst hpc
  have HH2' := hide (HH2.out (some ⟨gp,op,none⟩) 0 0 (by omega) (fun w4 _=>by rw[List.drop_length];exact Nums.nil (fun a e=>by injection e with e;rw[←e])) (by omega))
  clear HH2
  go_region_with ((go_at_call 236;refine HBe.out.mono ?_;rintro e w4 ⟨t4,b4,h4,rfl,hs4,hb4,hf4,hn4,hh4⟩;obtain⟨g0,g1⟩:=HC.out w4 hb4;obtain⟨⟨z0,y0⟩,⟨z1,y1⟩,y2,y3⟩:=hf4.refCell i hi16;have HX5:=hide (HX5f.out w4 t4 b4 h4 (And.intro hs4 (And.intro hb4 (And.intro hf4 (And.intro hn4 hh4)))));clear hs4 hb4 hf4 hn4 hh4))
  all_goals
   generalize World.setCell (World.setCell w4 _ _) _ _=w5 at *
   go_wp2_with fail
   refine (HH2'.out w5 _ HX5.out.1 HX5.out.2.1 HX5.out.2.2).mono ?_
   rintro e w6 ⟨rfl,hb6,c6,x6,he6,hf6⟩
   have HAH:=hide (HAh.out w5 w6 HX5.out.1 hb6 c6 x6 he6 hf6)
   clear hb6 he6 hf6
   go_wp2_with fail
   refine HAH.out.mono ?_
   rintro e w7 ⟨v7,rfl,hn7,hb7⟩
   have HX7:=hide (And.intro hn7 hb7)
   clear hn7 hb7
   go_wp2
   go_ret2
   exact⟨_,rfl,HX7.out.1,HX7.out.2⟩
 ·have HH2' := hide (HH2.out (some ⟨gp,op+n,none⟩) (p.length - n) (cap - n) rfl (fun w4 h4=>(HP.out.keep h4 (Nat.le_refl _)).drop n) (by omega))
  have pcI:(n:Int)<(cap:Int):=by omega
  clear HH2
  go_region_with ((go_at_call 236;refine HBe.out.mono ?_;rintro e w4 ⟨t4,b4,h4,rfl,hs4,hb4,hf4,hn4,hh4⟩;obtain⟨g0,g1⟩:=HC.out w4 hb4;obtain⟨⟨z0,y0⟩,⟨z1,y1⟩,y2,y3⟩:=hf4.refCell i hi16;have HX5:=hide (HX5f.out w4 t4 b4 h4 (And.intro hs4 (And.intro hb4 (And.intro hf4 (And.intro hn4 hh4)))));clear hs4 hb4 hf4 hn4 hh4))
  all_goals
   generalize World.setCell (World.setCell w4 _ _) _ _=w5 at *
   go_wp2_with fail
   refine (HH2'.out w5 _ HX5.out.1 HX5.out.2.1 HX5.out.2.2).mono ?_
   rintro e w6 ⟨rfl,hb6,c6,x6,he6,hf6⟩
   have HAH:=hide (HAh.out w5 w6 HX5.out.1 hb6 c6 x6 he6 hf6)
   clear hb6 he6 hf6
   go_wp2_with fail
   refine HAH.out.mono ?_
   rintro e w7 ⟨v7,rfl,hn7,hb7⟩
   have HX7:=hide (And.intro hn7 hb7)
   clear hn7 hb7
   go_wp2
   go_ret2
   exact⟨_,rfl,HX7.out.1,HX7.out.2⟩
end Go.Proofs.YthdjmldddjljfaaGreatDoor
