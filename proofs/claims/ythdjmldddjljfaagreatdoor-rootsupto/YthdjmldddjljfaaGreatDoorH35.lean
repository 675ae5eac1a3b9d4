/-
  OUR OWN.
-/
import Derived.Test.YthdjmldddjljfaaGreatDoorH32
import Derived.Test.YthdjmldddjljfaaGreatDoorH23
set_option maxHeartbeats 8000000
set_option maxRecDepth 20000
namespace Go.Proofs.YthdjmldddjljfaaGreatDoor
open Go.RowKit Go.Shelf
theorem own_len {w:World}{base e k:Nat}{v:Value}{xs:List Value}{n:Nat}(h:w.ownsRow base e k v n xs):∃ao cap,v=.slice ao n cap:=by
 rcases h.2 with⟨rfl,h0⟩|⟨g,c,cur,rfl,_⟩
 ·exact⟨none,0,by rw[h0]⟩
 ·exact⟨_,c,rfl⟩
set_option maxRecDepth 100000 in
theorem settled_many (b:Nat)(st:Value)(dp:Int)(us:Nat→Value)(hs:Nat→ByteArray)(x0:ByteArray)(c:Nat→Nd)(w:World)(hus:∀i,i<16→(us i=.nilIface∧hs i=e0)∨∃t b,us i=.iface t (ptr b))
  (hcn:∀j,j<16→(us j=.nilIface↔(c j).isNil=true)) (hc:w.heap[b]? = some (.cells (brCells us hs x0) 285 (0,0))) (hm:1 < nParts c x0) :
  Calls Tryz.prog 242 #[ptr b,st,.int .i64 dp] w fun e w' => e=.returned (.tuple #[.iface 252 (ptr b),.int .i64 0])∧Below w.heap.size w w' := by
 have hl:=(aGe.1 hc).1
 unfold ptr at *
 go_enter Tryz.func242,Tryz.ntmps242
 go_wp2_with fail
 have hmade:=brParts_made b w
 unfold ptr at hmade
 refine hmade.mono ?_
 rintro e w1 ⟨rfl,rfl⟩
 go_wp2_with fail
 have hcol:=collect_parts w.heap.size b us hs x0 (w.alloc (.cells #[.pointer (some ⟨b,0,none⟩)] 252)) (live_of hus) (heap_alloc_new w _) ((Below.heap_alloc _ _ _ hl).trans hc)
 refine hcol.mono ?_
 rintro e w2 ⟨v,xs,rfl,hrow,hpts,hbel⟩
 have hcnt:=hpts.count hcn (no_hash hus)
 obtain⟨ao,cap,rfl⟩:=own_len hrow
 have hgt:(1:Int)<(xs.length:Int):=by omega
 have hB:Below w.heap.size w w2:=(below_alloc w _).trans (hbel.mono (by simp))
 clear hrow hpts hbel hcol hmade
 generalize xs.length=k at *
 go_wp2
 go_ret2
 exact⟨rfl,hB⟩
theorem own_one {w:World}{base:Nat}{v:Value}{a b c d:Value}(h:w.ownsRow base 191 4 v 1 [a,b,c,d]):∃g cap,v=.slice (some ⟨g,0,none⟩) 1 cap∧w.cell? ⟨g,0,none⟩=some a∧w.cell? ⟨g,1,none⟩=some b∧w.cell? ⟨g,2,none⟩=some c∧w.cell? ⟨g,3,none⟩=some d:=by
 rcases h.2 with⟨_,h0⟩|⟨g,cp,cur,rfl,_,k2,_,k4⟩
 ·cases h0
 ·refine⟨g,cp,rfl,?_⟩
  have hj:∀j,j<4→w.cell? ⟨g,j,none⟩=[a,b,c,d][j]?:=fun j hj=>by
   unfold World.cell?
   rw[k2,←k4.2.2,List.getElem?_take,if_pos (by omega)]
   simp
  exact⟨hj 0 (by omega),hj 1 (by omega),hj 2 (by omega),hj 3 (by omega)⟩
set_option maxRecDepth 100000 in
theorem settled_val (Hk:Nd→ByteArray→Prop)(b:Nat)(st:Value)(dp:Int)(us:Nat→Value)(hs:Nat→ByteArray)(x0:ByteArray)(c:Nat→Nd)(w:World)(hus:∀i,i<16→(us i=.nilIface∧hs i=e0)∨∃t b,us i=.iface t (ptr b))
  (hcn:∀j,j<16→(us j=.nilIface↔(c j).isNil=true)) (hc:w.heap[b]? = some (.cells (brCells us hs x0) 285 (0,0))) (hm:nParts c x0=1) (hx:x0≠e0) :
  Calls Tryz.prog 242 #[ptr b,st,.int .i64 dp] w fun e w' => ∃u,e=.returned (.tuple #[u,.int .i64 0])∧NdAt Hk (fun k=>w.heap.size≤k) w' (.leaf [] x0) u∧Below w.heap.size w w' := by
 have hl:=(aGe.1 hc).1
 unfold ptr at *
 go_enter Tryz.func242,Tryz.ntmps242
 go_wp2_with fail
 have hmade:=brParts_made b w
 unfold ptr at hmade
 refine hmade.mono ?_
 rintro e w1 ⟨rfl,rfl⟩
 go_wp2_with fail
 have hcol:=collect_parts w.heap.size b us hs x0 (w.alloc (.cells #[.pointer (some ⟨b,0,none⟩)] 252)) (live_of hus) (heap_alloc_new w _) ((Below.heap_alloc _ _ _ hl).trans hc)
 refine hcol.mono ?_
 rintro e w2 ⟨v,xs,rfl,hrow,hpts,hbel⟩
 have hcnt:=hpts.count hcn (no_hash hus)
 rw[hm] at hcnt
 obtain⟨vs,rs,rfl,hv,-⟩:=hpts.form hcn (no_hash hus) (Nat.le_refl _)
 rcases hv with⟨h,_⟩|⟨_,x,rfl,hxc⟩
 ·exact absurd h hx
 obtain rfl:rs=[]:=by simpa using hcnt
 have hB:Below w.heap.size w w2:=(below_alloc w _).trans (hbel.mono (by simp))
 simp only[ptCells,List.append_nil,List.flatMap_cons,List.flatMap_nil,hxc,List.length_cons,List.length_nil,Nat.zero_add] at hrow
 obtain⟨g,cap,rfl,q0,q1,q2,q3⟩:=own_one hrow
 have hne2:x0.toList.isEmpty=false:=by
  cases h:x0.toList with
  | nil=>exact absurd (e0_of_toList h) hx
  | cons _ _=>rfl
 clear hrow hpts hbel hcol hmade hcnt hxc
 go_wp2_with fail
 have hnew:=newLeaf_any Hk none 0 [] x0 (w2.alloc (.cells #[.slice none 0 0,.string x0,.nilIface,.string e0] 191)) ⟨fun _ h=>(by cases h),fun k hk=>absurd hk (by simp)⟩ (fun _=>rfl) (by simp) (by simp)
 unfold ptr at hnew
 refine hnew.mono ?_
 rintro e w3 ⟨b3,rfl,hz,hge,hnd,hb3⟩
 go_wp2
 go_ret2
 have h2:=hB.size
 exact⟨_,rfl,NdAt.mono (fun k hk=>Nat.le_trans (Nat.le_succ_of_le h2) (by simpa using hk)) _ _ hnd,(hB.alloc hB.size _).trans (hb3.mono (by simp;omega))⟩
set_option maxRecDepth 100000 in
theorem settled_ref (Hk:Nd→ByteArray→Prop)(ok:Nat→Prop)(b:Nat)(st:Value)(dp:Nat)(us:Nat→Value)(hs:Nat→ByteArray)(c:Nat→Nd)(k:Nat)(w:World)(hus:∀i,i<16→(us i=.nilIface∧hs i=e0)∨∃t b,us i=.iface t (ptr b))
  (hcn:∀j,j<16→(us j=.nilIface↔(c j).isNil=true)) (hc:w.heap[b]? = some (.cells (brCells us hs e0) 285 (0,0))) (hf:full c=[k]) (hn:NdAt Hk ok w (c k) (us k)) (hh:hs k=e0∨Hk (c k) (hs k)) (hl:(c k).plen≤800) (hd:dp≤10000) :
  Calls Tryz.prog 242 #[ptr b,st,.int .i64 (dp:Int)] w fun e w' => ∃u,e=.returned (.tuple #[u,.int .i64 0])∧NdAt Hk (fun j=>ok j∨w.heap.size≤j) w' ((c k).ahead [k]) u∧Below w.heap.size w w' := by
 have hbl:=(aGe.1 hc).1
 have hkf:=(full_mem c k).1 (by rw[hf];simp)
 have hk16:k<16:=hkf.1
 have hne:c k≠.nil:=hkf.2
 obtain⟨tk,bk,hk⟩:=hn.some hne
 have hr:=br_ref hc k hk16
 unfold ptr at *
 go_enter Tryz.func242,Tryz.ntmps242
 go_wp2_with fail
 have hmade:=brParts_made b w
 unfold ptr at hmade
 refine hmade.mono ?_
 rintro e w1 ⟨rfl,rfl⟩
 go_wp2_with fail
 have hcol:=collect_parts w.heap.size b us hs e0 (w.alloc (.cells #[.pointer (some ⟨b,0,none⟩)] 252)) (live_of hus) (heap_alloc_new w _) ((Below.heap_alloc _ _ _ hbl).trans hc)
 refine hcol.mono ?_
 rintro e w2 ⟨v,xs,rfl,hrow,hpts,hbel⟩
 obtain⟨vs,rs,rfl,hv,hb2⟩:=hpts.form hcn (no_hash hus) (Nat.le_refl _)
 obtain rfl:vs=[]:=by
  rcases hv with⟨_,h⟩|⟨h,_⟩
  ·exact h
  ·exact absurd rfl h
 have hfl:(List.range 16).filter (fun j=>!(c j).isNil)=[k]:=hf
 rw[hfl] at hb2
 cases hb2 with
 | cons hx htl =>
 cases htl
 obtain⟨g2,t2,b2,hu2,hg2,hcg,hxc⟩:=hx
 rw[hk] at hu2
 obtain⟨rfl,rfl⟩:tk=t2∧bk=b2:=by simpa[ptr] using hu2
 have hB:Below w.heap.size w w2:=(below_alloc w _).trans (hbel.mono (by simp))
 simp only[ptCells,List.nil_append,List.flatMap_cons,List.flatMap_nil,List.append_nil,hxc,hk,List.length_cons,List.length_nil,Nat.zero_add] at hrow
 obtain⟨g,cap,rfl,q0,q1,q2,q3⟩:=own_one hrow
 have hB3:∀o,Below w.heap.size w (w2.alloc o):=fun o=>hB.alloc hB.size o
 have hg:g2 < w2.heap.size:=(aGe.1 hcg).1
 have p0:∀o,(w2.alloc o).cell? ⟨g2,0,none⟩=some (.int .i64 (k:Int)):=fun o=>cell_of_row _ g2 0 _ _ (0,0) ((Below.heap_alloc _ _ _ hg).trans hcg)
 have HU:Hid (∀W,Below w.heap.size w W→Calls Tryz.prog 241 #[.pointer (some ⟨b,0,none⟩),.int .i64 (k:Int),.int .i64 (dp:Int)] W fun e w' => e=.returned (.agg #[.iface tk (.pointer (some ⟨bk,0,none⟩)),.string (hs k),.iface 252 (.pointer (some ⟨b,0,none⟩)),.int .i64 ((dp:Int)+1)])∧Below W.heap.size W w') :=
  fun W hW=>by
   have h1:=brUnder_any b k (us k) (hs k) dp W hn.isNd ((hW.cell (p:=⟨b,k*2,none⟩) hbl).trans hr.1) ((hW.cell (p:=⟨b,k*2+1,none⟩) hbl).trans hr.2) hk16 hd
   rw[hk] at h1
   exact h1
 have HAh:Hid (∀W,Below w.heap.size w W→W.heap[g2]? = some (.cells #[.int .i64 (k:Int)] 3 (0,0))→Calls Tryz.prog 216 #[.slice (some ⟨g2,0,none⟩) 1 1,.agg #[.iface tk (.pointer (some ⟨bk,0,none⟩)),.string (hs k)],.iface tk (.pointer (some ⟨bk,0,none⟩))] W fun e w' => ∃v', e=.returned v' ∧ NdAt Hk (fun j=>ok j∨w.heap.size≤j) w' ((c k).ahead [k]) v' ∧ Below w.heap.size w w'):=fun W hW hWg=>by
  have hnu:Nums W (some ⟨g2,0,none⟩) [k]:=⟨fun a e=>by injection e with e;rw[←e],fun j hj=>by
   obtain rfl:j=0:=by simpa using hj
   exact⟨g2,0,rfl,cell_of_row W g2 0 _ _ (0,0) hWg⟩⟩
  have h1:=ahead_any Hk (some ⟨g2,0,none⟩) 1 [k] (c k) (hs k) ok (us k) W hnu (fun h=>by cases h) (by simp) (by simp;omega) hne (hn.keep hW) hh
  rw[hk] at h1
  refine h1.mono ?_
  rintro e w' ⟨v', rfl,h2,h3⟩
  exact⟨v', rfl,NdAt.mono (fun j hj=>hj.imp id (fun h=>Nat.le_trans hW.size h)) _ _ h2,hW.trans (h3.mono hW.size)⟩
 have HCG:=hide hcg
 have HBW:=hide hB
 have HO:=hide (heap_alloc_new w2 (.cells #[.slice (some ⟨g2,0,none⟩) 1 1,.string e0,.iface tk (.pointer (some ⟨bk,0,none⟩)),.string (hs k)] 191))
 have HG2:Hid (g2 < w2.heap.size):=hg
 clear hrow hpts hbel hcol hmade hxc hn hr hus hcn hc hcg hB hv hfl hf hg
 go_wp2_with fail
 refine (HU.out _ (hB3 _)).mono ?_
 rintro e w3 ⟨rfl,hb3⟩
 have HBW3:Hid (Below w.heap.size w w3):=(hB3 _).trans (hb3.mono (hB3 _).size)
 have hbx3:=(hb3.block w2.heap.size (by simp)).trans HO.out
 have HG3:Hid (w3.heap[g2]? = some (.cells #[.int .i64 (k:Int)] 3 (0,0))):=(hb3.block g2 (by have:=HG2.out;simp;omega)).trans ((Below.heap_alloc _ _ _ HG2.out).trans HCG.out)
 have HX3:=hide hbx3
 clear hb3 hbx3 p0
 go_wp2_with fail
 refine (read_any st tk bk (hs k) _ _ w3).mono ?_
 rintro e w4 ⟨rfl,hb4⟩
 have hlt3:=(aGe.1 HX3.out).1
 have hbx4:=(hb4.block w2.heap.size hlt3).trans HX3.out
 have y0:w4.cell? ⟨w2.heap.size,0,none⟩=some (.slice (some ⟨g2,0,none⟩) 1 1):=cell_of_row _ _ 0 _ _ (0,0) hbx4
 have y2:w4.cell? ⟨w2.heap.size,2,none⟩=some (.iface tk (.pointer (some ⟨bk,0,none⟩))):=cell_of_row _ _ 2 _ _ (0,0) hbx4
 have y3:w4.cell? ⟨w2.heap.size,3,none⟩=some (.string (hs k)):=cell_of_row _ _ 3 _ _ (0,0) hbx4
 have HA4:=hide (HAh.out w4 (HBW3.out.trans (hb4.mono HBW3.out.size)) ((hb4.block g2 (aGe.1 HG3.out).1).trans HG3.out))
 clear hb4 hbx4 hlt3
 go_wp2_with fail
 refine HA4.out.mono ?_
 rintro e w5 ⟨v5,rfl,hn5,hb5⟩
 have HX5:=hide (And.intro hn5 hb5)
 clear hn5 hb5
 go_wp2
 go_ret2
 exact⟨v5,rfl,HX5.out.1,HX5.out.2⟩
end Go.Proofs.YthdjmldddjljfaaGreatDoor
namespace Go.Proofs.YthdjmldddjljfaaGreatDoor
open Go.RowKit Go.Shelf
attribute [local go_sem ↓] Go.wp_at_zero Go.wp_at_succ
theorem settled_any (Hk:Nd→ByteArray→Prop)(ok:Nat→Prop)(b:Nat)(st:Value)(dp:Nat)(c:Nat→Nd)(x:ByteArray)(w:World)(hf:FkAt Hk ok w b c x)(hp:1≤nParts c x)(hl:∀i,(c i).plen≤800)(hd:dp≤10000) :
  Calls Tryz.prog 242 #[ptr b,st,.int .i64 (dp:Int)] w fun e w' => ∃u,e=.returned (.tuple #[u,.int .i64 0])∧NdAt Hk (fun k=>(ok k∨k=b)∨w.heap.size≤k) w' (settle c x) u∧Below w.heap.size w w' := by
 have hnode:=hf.node
 obtain⟨us,hs,⟨hb⟩,hch⟩:=hf
 have hcn:∀j,j<16→(us j=.nilIface↔(c j).isNil=true):=fun j hj=>by
  rw[isNil_iff]
  constructor
  ·intro e
   cases hc:c j with
   | nil=>rfl
   | leaf p v=>have h:=(hch j hj).1;rw[hc] at h;obtain⟨_,_,_,h,_⟩:=h;rw[e] at h;cases h
   | ext p m=>have h:=(hch j hj).1;rw[hc] at h;obtain⟨_,_,_,_,_,h,_⟩:=h;rw[e] at h;cases h
   | br c' v=>have h:=(hch j hj).1;rw[hc] at h;obtain⟨_,_,_,h,_⟩:=h;rw[e] at h;cases h
  ·intro e
   have h:=(hch j hj).1
   rw[e] at h;exact h
 have hus:∀i,i<16→(us i=.nilIface∧hs i=e0)∨∃t b,us i=.iface t (ptr b):=fun i hi=>by
  by_cases hc:c i=.nil
  ·refine .inl ⟨(hcn i hi).2 ((isNil_iff _).2 hc),?_⟩
   rcases (hch i hi).2 with h|⟨h,_⟩
   ·exact h
   ·exact absurd hc h
  ·exact .inr ((hch i hi).1.some hc)
 rcases settle_cases c x with⟨h1,h2⟩|⟨h1,h2,h3⟩|⟨h1,k,h2,h3⟩|⟨h1,h2,h3⟩
 ·rw[h2]
  refine (settled_many b st dp us hs x c w hus hcn hb h1).mono ?_
  rintro e w' ⟨rfl,hbl⟩
  exact⟨_,rfl,NdAt.mono (fun k hk=>.inl hk) _ _ (hnode.keep hbl),hbl⟩
 ·rw[h3]
  have hone:nParts c x=1:=by unfold nParts;rw[if_neg h1,h2];rfl
  refine (settled_val Hk b st dp us hs x c w hus hcn hb hone (fun e=>h1 (by rw[e];rfl))).mono ?_
  rintro e w' ⟨u,rfl,hu,hbl⟩
  exact⟨u,rfl,NdAt.mono (fun k hk=>.inr hk) _ _ hu,hbl⟩
 ·rw[h3]
  subst h1
  have hk:=(full_mem c k).1 (by rw[h2];simp)
  refine (settled_ref Hk ok b st dp us hs c k w hus hcn hb h2 (hch k hk.1).1 ((hch k hk.1).2.imp id (fun h=>h.2)) (hl k) hd).mono ?_
  rintro e w' ⟨u,rfl,hu,hbl⟩
  exact⟨u,rfl,NdAt.mono (fun k hk=>hk.imp .inl id) _ _ hu,hbl⟩
 ·exfalso
  subst h1
  unfold nParts at hp
  rw[h2,if_pos (show e0.size=0 from rfl)] at hp
  simp at hp
theorem nParts_e0 {c:Nat→Nd}{x:ByteArray}(h:2≤nParts c x):1≤nParts c e0:=by
 have:=nParts_val c x e0
 rw[if_pos (show e0.size=0 from rfl)] at this
 split at this<;>omega
theorem brRem_nil (Hk:Nd→ByteArray→Prop)(L:Nat)(ok:Nat→Prop)(b:Nat)(st:Value)(dp:Nat)(ao:Option Addr)(cap:Nat)(c:Nat→Nd)(x:ByteArray)(w:World)(hok:∀k,ok k→k<w.heap.size)(hn:NdAt Hk ok w (.br c x) (.iface 252 (ptr b)))(hw:(Nd.br c x).WF)(hlen:(Nd.br c x).Len L)(hL:L≤400)(hd:dp+L≤10000) :
  Calls Tryz.prog 239 #[ptr b,st,.int .i64 (dp:Int),.slice ao 0 cap] w fun e w' => PutPost Hk ok ((Nd.br c x).remove []) w e w' := by
 have HPT:Hid ((Nd.br c x).remove []=settle c e0):=by show _=_;simp[Nd.remove]
 obtain⟨b', us,hs,hb', o1,hb,hch⟩:=hn
 obtain rfl:b=b' := by simpa[ptr] using hb'
 have HBk:=hide hb
 have HOne:=hide (brCells_one us hs x (fun i hi=>(hch i hi).1.isNd))
 have HCp:=hide (copied (x:=x) hch #[.nilIface,.string ⟨#[]⟩,.nilIface,.string ⟨#[]⟩,.nilIface,.string ⟨#[]⟩,.nilIface,.string ⟨#[]⟩,.nilIface,.string ⟨#[]⟩,.nilIface,.string ⟨#[]⟩,.nilIface,.string ⟨#[]⟩,.nilIface,.string ⟨#[]⟩,.nilIface,.string ⟨#[]⟩,.nilIface,.string ⟨#[]⟩,.nilIface,.string ⟨#[]⟩,.nilIface,.string ⟨#[]⟩,.nilIface,.string ⟨#[]⟩,.nilIface,.string ⟨#[]⟩,.nilIface,.string ⟨#[]⟩,.nilIface,.string ⟨#[]⟩,.string ⟨#[]⟩])
 have HST:Hid (∀W,FkAt Hk ok W w.heap.size c e0→Calls Tryz.prog 242 #[ptr w.heap.size,st,.int .i64 (dp:Int)] W fun e w' => ∃u,e=.returned (.tuple #[u,.int .i64 0])∧NdAt Hk (fun k=>(ok k∨k=w.heap.size)∨W.heap.size≤k) w' (settle c e0) u∧Below W.heap.size W w'):=fun W h =>
  settled_any Hk ok w.heap.size st dp c e0 W h (nParts_e0 hw.2.2) (fun i=>Nat.le_trans (plen_le (hlen.2 i)) (by omega)) (by omega)
 have HOK:=hide hok
 clear hb hch hok hw hlen
 unfold ptr at *
 go_enter Tryz.func239,Tryz.ntmps239
 go_wp2_with (first
  | (refine wpList_load_row rfl 285 (.tmp 14) rfl b rfl 285 (brCells us hs x) (0,0) _ HBk.out Tryz.underlying285 rfl (sizeBr us hs x) ?_)
  | (refine wpList_store_row rfl 285 (.tmp 10) (.tmp 15) rfl w.heap.size (brCells us hs x) rfl rfl 285 _ (heap_alloc_new w _) (sizeBr us hs x) (by rw[brCells_size];rfl) HOne.out ?_;generalize World.setRow _ _ _=W2 at *;have hv:=HCp.out.1.valCell.1;have hz:=HCp.out.1.valCell.2;obtain⟨hva,hvb⟩:=hv))
 have HF:=hide (HCp.out.1.setVal (fun h=>by have:=HOK.out _ h;omega) e0)
 have HB3:Hid (Below w.heap.size w (W2.setCell ⟨w.heap.size,32,none⟩ (.string e0))):=HCp.out.2.1.setCell (p:=⟨w.heap.size,32,none⟩) (Nat.le_refl _) _
 refine (HST.out _ HF.out).mono ?_
 rintro e w4 ⟨u,rfl,hu,hb4⟩
 have HX:=hide (And.intro hu hb4)
 clear hu hb4
 go_wp2
 go_ret2
 refine⟨u,rfl,?_,HB3.out.trans (HX.out.2.mono HB3.out.size)⟩
 rw[HPT.out]
 refine NdAt.mono (fun k hk=>?_) _ _ HX.out.1
 have hs:=HB3.out.size
 rcases hk with (hk|hk)|hk
 ·exact .inl hk
 ·exact .inr (by omega)
 ·exact .inr (by omega)
theorem brRem_cons (Hk:Nd→ByteArray→Prop)(L:Nat)(ok:Nat→Prop)(b:Nat)(st:Value)(dp gp op cap:Nat)(i:Nat)(p:List Nat)(c:Nat→Nd)(x:ByteArray)(w:World)(hok:∀k,ok k→k<w.heap.size)(hn:NdAt Hk ok w (.br c x) (.iface 252 (ptr b)))(hw:(Nd.br c x).WF)(hlen:(Nd.br c x).Len L)(hp:Nums w (some ⟨gp,op,none⟩) (i :: p))(hc:(i :: p).length≤cap)(hpl:(i :: p).length≤L)(hL:L≤400)(hd:dp+L≤10000)(hp16:∀j∈i :: p,j<16)(hlk:((Nd.br c x).look (i :: p)).size≠0)(ih:SRemOk Hk (L - 1) (c i)) :
  Calls Tryz.prog 239 #[ptr b,st,.int .i64 (dp:Int),.slice (some ⟨gp,op,none⟩) (p.length+1) cap] w fun e w' => PutPost Hk ok ((Nd.br c x).remove (i :: p)) w e w' := by
 have HPT:Hid ((Nd.br c x).remove (i :: p)=settle (upd c i ((c i).remove p)) x):=by show _=_;simp[Nd.remove]
 obtain⟨b', us,hs,hb', o1,hb,hch⟩:=hn
 obtain rfl:b=b' := by simpa[ptr] using hb'
 have hi16:=hp16 i (List.mem_cons_self ..)
 have hbl:=(aGe.1 hb).1
 obtain⟨gp', op', hgo,hpc⟩:=hp.at' 0 (by simp)
 obtain⟨rfl,rfl⟩:gp=gp' ∧ op=op' := by simpa using hgo
 simp only[List.getD_cons_zero,Nat.add_zero] at hpc
 have hpbl:=World.block_lt_of_cell? w _ hpc
 rw[look_cons] at hlk
 have hci:c i≠.nil:=fun e=>by rw[e] at hlk;exact hlk rfl
 have hp16' : ∀j∈p,j<16:=fun j hj=>hp16 j (List.mem_cons_of_mem _ hj)
 have hcell:∀W,Below w.heap.size w W→W.cell? ⟨gp,op,none⟩=some (.int .i64 (i:Int))∧W.cell? ⟨b,i*2,none⟩=some (us i)∧W.cell? ⟨b,i*2+1,none⟩=some (.string (hs i)):=fun W hW =>
  ⟨(hW.cell (p:=⟨gp,op,none⟩) hpbl).trans hpc,(hW.cell (p:=⟨b,i*2,none⟩) hbl).trans (br_ref hb i hi16).1,(hW.cell (p:=⟨b,i*2+1,none⟩) hbl).trans (br_ref hb i hi16).2⟩
 have HC:Hid (∀W,Below w.heap.size w W→W.cell? ⟨gp,op,none⟩=some (.int .i64 (i:Int))):=fun W hW=>(hcell W hW).1
 have HU:Hid (∀W,Below w.heap.size w W→Calls Tryz.prog 241 #[ptr b,.int .i64 (i:Int),.int .i64 (dp:Int)] W fun e w' => e=.returned (.agg #[us i,.string (hs i),.iface 252 (ptr b),.int .i64 ((dp:Int)+1)])∧Below W.heap.size W w') :=
  fun W hW=>brUnder_any b i (us i) (hs i) dp W (hch i hi16).1.isNd (hcell W hW).2.1 (hcell W hW).2.2 hi16 (by omega)
 have hiw:∀(a l cc:Nat) W,Below w.heap.size w W→Nums w (some ⟨gp,a,none⟩) p→l=p.length→l≤cc→Calls Tryz.prog 79 #[st,.agg #[us i,.string (hs i),.iface 252 (ptr b),.int .i64 ((dp:Int)+1)],.slice (some ⟨gp,a,none⟩) l cc] W fun e w' => PutPost Hk ok ((c i).remove p) W e w' := by
  intro a l cc W hW hnu hl hlc
  subst hl
  have h1:=ih ok (us i) (hs i) st (.iface 252 (ptr b)) (dp+1) gp a cc p W (fun k hk=>Nat.lt_of_lt_of_le (hok k hk) hW.size) ((hch i hi16).1.keep hW) (hnu.keep hW (Nat.le_refl _)) hlc (by simp at hpl;omega) (by simp at hpl;omega) hp16' hlk
  rw[Int.natCast_add] at h1
  exact h1
 have hpn:1≤nParts (upd c i ((c i).remove p)) x:=by
  have h1:=nParts_upd c x i ((c i).remove p) hi16
  have h2:=hw.2.2
  rw[if_neg (by rw[isNil_iff];exact hci)] at h1
  split at h1<;>omega
 have hpl2:∀j,(upd c i ((c i).remove p) j).plen≤800:=fun j=>by
  unfold upd
  split
  ·exact Nat.le_trans (plen_le (remove_Len (c i) p (L - 1) (hw.1 i) hp16' (hlen.2 i))) (by omega)
  ·exact Nat.le_trans (plen_le (hlen.2 j)) (by omega)
 have HFin:Hid (∀(W2 X:World) (v4:Value),Below w.heap.size w W2→W2.heap.size=w.heap.size+1→FkAt Hk ok W2 w.heap.size c x→Below W2.heap.size W2 X→NdAt Hk (fun k=>ok k∨W2.heap.size≤k) X ((c i).remove p) v4→Calls Tryz.prog 242 #[ptr w.heap.size,st,.int .i64 (dp:Int)] ((X.setCell ⟨w.heap.size,i*2,none⟩ v4).setCell ⟨w.heap.size,i*2+1,none⟩ (.string e0)) fun e w' => PutPost Hk ok ((Nd.br c x).remove (i :: p)) w e w'):=fun W2 X v4 hW hsz hf hbX hn4=>by
  have hf2:FkAt Hk (fun k=>ok k∨W2.heap.size≤k) X w.heap.size c x:=(hf.keep hbX).mono (fun k hk=>.inl hk)
  have hf3:=hf2.setRef (fun h=>by rcases h with h|h;{ have:=hok _ h;omega };{ omega }) i hi16 _ v4 e0 hn4 (.inl rfl)
  have hbw:Below w.heap.size w X:=hW.trans (hbX.mono hW.size)
  have hb3:=below_ref hbw (Nat.le_refl _) (i*2) (i*2+1) v4 (.string e0)
  refine (settled_any Hk _ w.heap.size st dp _ x _ hf3 hpn hpl2 (by omega)).mono ?_
  rintro e w' ⟨u,rfl,hu,hb4⟩
  refine⟨u,rfl,?_,hb3.trans (hb4.mono hb3.size)⟩
  rw[HPT.out]
  refine NdAt.mono (fun k hk=>?_) _ _ hu
  have hs:=hb3.size
  rcases hk with ((hk|hk)|hk)|hk
  ·exact .inl hk
  ·exact .inr (by omega)
  ·exact .inr (by omega)
  ·exact .inr (by omega)
 have HCells:Hid (∀(W2 X:World),FkAt Hk ok W2 w.heap.size c x→Below W2.heap.size W2 X→(∃a,X.cell? ⟨w.heap.size,i*2,none⟩=some a)∧(∃a,X.cell? ⟨w.heap.size,i*2+1,none⟩=some a)∧X.frozen? ⟨w.heap.size,i*2,none⟩=false∧X.frozen? ⟨w.heap.size,i*2+1,none⟩=false):=fun W2 X hf hbX=>(hf.keep hbX).refCell i hi16
 have HBk:=hide hb
 have HOne:=hide (brCells_one us hs x (fun i hi=>(hch i hi).1.isNd))
 have HCp:=hide (copied (x:=x) hch #[.nilIface,.string ⟨#[]⟩,.nilIface,.string ⟨#[]⟩,.nilIface,.string ⟨#[]⟩,.nilIface,.string ⟨#[]⟩,.nilIface,.string ⟨#[]⟩,.nilIface,.string ⟨#[]⟩,.nilIface,.string ⟨#[]⟩,.nilIface,.string ⟨#[]⟩,.nilIface,.string ⟨#[]⟩,.nilIface,.string ⟨#[]⟩,.nilIface,.string ⟨#[]⟩,.nilIface,.string ⟨#[]⟩,.nilIface,.string ⟨#[]⟩,.nilIface,.string ⟨#[]⟩,.nilIface,.string ⟨#[]⟩,.nilIface,.string ⟨#[]⟩,.string ⟨#[]⟩])
 have i0:(0:Int)≤(i:Int):=by omega
 have i1:(i:Int)<16:=by omega
 have p1:(p.length:Int)+1≤(cap:Int):=by simp at hc;omega
 have p2:(((p.length:Int)+1) == 0)=false:=by simp;omega
 have p3:(1:Int)≤(p.length:Int)+1:=by omega
 have hd1:=hp.drop 1
 rw[List.drop_one,List.tail_cons] at hd1
 obtain⟨a2,l2,c2,hsl,HI0⟩:∃a2 l2 c2,((cap=1∧a2=op∧l2=0∧c2=0)∨(¬cap=1∧a2=op+1∧l2=p.length∧c2=cap - 1))∧Hid (∀W,Below w.heap.size w W→Calls Tryz.prog 79 #[st,.agg #[us i,.string (hs i),.iface 252 (ptr b),.int .i64 ((dp:Int)+1)],.slice (some ⟨gp,a2,none⟩) l2 c2] W fun e w' => PutPost Hk ok ((c i).remove p) W e w'):=by
  by_cases hcap:cap=1
  ·obtain rfl:p=[]:=List.length_eq_zero_iff.1 (by simp at hc;omega)
   exact⟨op,0,0,.inl ⟨hcap,rfl,rfl,rfl⟩,fun W hW=>hiw op 0 0 W hW (Nums.nil (fun a e=>by injection e with e;rw[←e])) rfl (Nat.le_refl _)⟩
  ·exact⟨op+1,p.length,cap - 1,.inr ⟨hcap,rfl,rfl,rfl⟩,fun W hW=>hiw (op+1) p.length (cap - 1) W hW hd1 rfl (by simp at hc;omega)⟩
 clear hcell hiw hb hch hp hok ih hd1 hpc hc hw hlen hlk hpn hpl2 hci
 unfold ptr at *
 rcases hsl with⟨rfl,rfl,rfl,rfl⟩|⟨hcap,rfl,rfl,rfl⟩
 ·obtain rfl:p=[]:=List.length_eq_zero_iff.1 (by omega)
  go_enter Tryz.func239,Tryz.ntmps239
  go_wp2_with (first
   | (refine wpList_load_row rfl 285 (.tmp 14) rfl b rfl 285 (brCells us hs x) (0,0) _ HBk.out Tryz.underlying285 rfl (sizeBr us hs x) ?_)
   | (refine wpList_store_row rfl 285 (.tmp 10) (.tmp 15) rfl w.heap.size (brCells us hs x) rfl rfl 285 _ (heap_alloc_new w _) (sizeBr us hs x) (by rw[brCells_size];rfl) HOne.out ?_;generalize World.setRow _ _ _=W2 at *))
  have HB2:Hid (Below w.heap.size w W2):=HCp.out.2.1
  have pc:=HC.out W2 HB2.out
  go_region_with ((first
   | (go_at_call 241;refine (HU.out _ (by first|exact HB2.out.drew|exact HB2.out)).mono ?_;rintro e w3 ⟨rfl,hb3⟩;have HB3:Hid (Below W2.heap.size W2 w3):=(by first|exact (Below.refl _ _).drew.trans hb3|exact hb3);have pc3:=(HC.out w3 (HB2.out.trans (HB3.out.mono HB2.out.size)));clear hb3)
   | (go_at_call 79;refine (HI0.out _ (HB2.out.trans (HB3.out.mono HB2.out.size))).mono ?_;rintro e w4 ⟨v4,rfl,hn4,hb4⟩;have HX4:=hide (And.intro hn4 hb4);clear hn4 hb4)))
  all_goals
   have HB4:Hid (Below W2.heap.size W2 w4):=HB3.out.trans (HX4.out.2.mono HB3.out.size)
   have HN4:Hid (NdAt Hk (fun k=>ok k∨W2.heap.size≤k) w4 ((c i).remove []) v4):=NdAt.mono (fun k hk=>hk.imp id (fun h=>Nat.le_trans HB3.out.size h)) _ _ HX4.out.1
   have HS4:=hide (HFin.out W2 w4 v4 HB2.out HCp.out.2.2 HCp.out.1 HB4.out HN4.out)
   obtain⟨⟨z0a,z0⟩,⟨z1a,z1⟩,zf0,zf1⟩:=HCells.out W2 w4 HCp.out.1 HB4.out
   have pc4:=HC.out w4 (HB2.out.trans (HB4.out.mono HB2.out.size))
   clear pc pc3
   rcases HN4.out.isNd with rfl|⟨t4,b4,rfl⟩
   ·go_wp2_with fail
    refine HS4.out.mono ?_
    rintro e w5 ⟨v5,rfl,hn5,hb5⟩
    have HX5:=hide (And.intro hn5 hb5)
    clear hn5 hb5
    go_wp2
    go_ret2
    exact⟨v5,rfl,HX5.out.1,HX5.out.2⟩
   ·unfold ptr at *
    go_wp2_with fail
    refine HS4.out.mono ?_
    rintro e w5 ⟨v5,rfl,hn5,hb5⟩
    have HX5:=hide (And.intro hn5 hb5)
    clear hn5 hb5
    go_wp2
    go_ret2
    exact⟨v5,rfl,HX5.out.1,HX5.out.2⟩
 ·have hc1:¬(cap:Int)=1:=by omega
  go_enter Tryz.func239,Tryz.ntmps239
  go_wp2_with (first
   | (refine wpList_load_row rfl 285 (.tmp 14) rfl b rfl 285 (brCells us hs x) (0,0) _ HBk.out Tryz.underlying285 rfl (sizeBr us hs x) ?_)
   | (refine wpList_store_row rfl 285 (.tmp 10) (.tmp 15) rfl w.heap.size (brCells us hs x) rfl rfl 285 _ (heap_alloc_new w _) (sizeBr us hs x) (by rw[brCells_size];rfl) HOne.out ?_;generalize World.setRow _ _ _=W2 at *))
  have HB2:Hid (Below w.heap.size w W2):=HCp.out.2.1
  have pc:=HC.out W2 HB2.out
  go_region_with ((first
   | (go_at_call 241;refine (HU.out _ (by first|exact HB2.out.drew|exact HB2.out)).mono ?_;rintro e w3 ⟨rfl,hb3⟩;have HB3:Hid (Below W2.heap.size W2 w3):=(by first|exact (Below.refl _ _).drew.trans hb3|exact hb3);have pc3:=(HC.out w3 (HB2.out.trans (HB3.out.mono HB2.out.size)));clear hb3)
   | (go_at_call 79;refine (HI0.out _ (HB2.out.trans (HB3.out.mono HB2.out.size))).mono ?_;rintro e w4 ⟨v4,rfl,hn4,hb4⟩;have HX4:=hide (And.intro hn4 hb4);clear hn4 hb4)))
  all_goals
   have HB4:Hid (Below W2.heap.size W2 w4):=HB3.out.trans (HX4.out.2.mono HB3.out.size)
   have HN4:Hid (NdAt Hk (fun k=>ok k∨W2.heap.size≤k) w4 ((c i).remove p) v4):=NdAt.mono (fun k hk=>hk.imp id (fun h=>Nat.le_trans HB3.out.size h)) _ _ HX4.out.1
   have HS4:=hide (HFin.out W2 w4 v4 HB2.out HCp.out.2.2 HCp.out.1 HB4.out HN4.out)
   obtain⟨⟨z0a,z0⟩,⟨z1a,z1⟩,zf0,zf1⟩:=HCells.out W2 w4 HCp.out.1 HB4.out
   have pc4:=HC.out w4 (HB2.out.trans (HB4.out.mono HB2.out.size))
   clear pc pc3
   rcases HN4.out.isNd with rfl|⟨t4,b4,rfl⟩
   ·go_wp2_with fail
    refine HS4.out.mono ?_
    rintro e w5 ⟨v5,rfl,hn5,hb5⟩
    have HX5:=hide (And.intro hn5 hb5)
    clear hn5 hb5
    go_wp2
    go_ret2
    exact⟨v5,rfl,HX5.out.1,HX5.out.2⟩
   ·unfold ptr at *
    go_wp2_with fail
    refine HS4.out.mono ?_
    rintro e w5 ⟨v5,rfl,hn5,hb5⟩
    have HX5:=hide (And.intro hn5 hb5)
    clear hn5 hb5
    go_wp2
    go_ret2
    exact⟨v5,rfl,HX5.out.1,HX5.out.2⟩
theorem sRem_all (Hk:Nd→ByteArray→Prop):∀(n:Nd) (L:Nat),n.WF→n.Len L→L≤400→SRemOk Hk L n
 | .nil,L,_,_,_=>by
   intro ok u h st ab dp gp op cap p w _ _ _ _ _ _ _ hlk
   exact absurd rfl hlk
 | .leaf q x,L,hw,hl,hL=>by
   intro ok u h st ab dp gp op cap p w hok hn hp hc hpl hd hp16 hlk
   have hn' := hn
   obtain⟨b,_,_,rfl,_⟩:=hn'
   exact sRem_leaf Hk ok (.leaf q x) b h st ab dp gp op cap p w hn (fun W hW hb=>leafRem_any Hk ok b st dp _ p q x W)
 | .ext q m,L,hw,hl,hL=>by
   intro ok u h st ab dp gp op cap p w hok hn hp hc hpl hd hp16 hlk
   have hn' := hn
   obtain⟨b,_,_,_,_,rfl,_⟩:=hn'
   exact sRem_ext Hk ok (.ext q m) b h st ab dp gp op cap p w hn (fun W hW hb=>extRem_any Hk L ok b st dp gp op cap p q m W (fun k hk=>Nat.lt_of_lt_of_le (hok k hk) hb.size) hW hw hl (hp.keep hb (Nat.le_refl _)) hc hpl hL hd hp16 hlk (sRem_all Hk m (L - q.length) hw.2.2.2 hl.2 (by omega)))
 | .br c x,L,hw,hl,hL=>by
   intro ok u h st ab dp gp op cap p w hok hn hp hc hpl hd hp16 hlk
   have hn' := hn
   obtain⟨b,_,_,rfl,_⟩:=hn'
   refine sRem_br Hk ok (.br c x) b h st ab dp gp op cap p w hn (fun W hW hb=>?_)
   have hok' : ∀k,ok k→k<W.heap.size:=fun k hk=>Nat.lt_of_lt_of_le (hok k hk) hb.size
   cases p with
   | nil=>exact brRem_nil Hk L ok b st dp _ cap c x W hok' hW hw hl hL hd
   | cons i p=>exact brRem_cons Hk L ok b st dp gp op cap i p c x W hok' hW hw hl (hp.keep hb (Nat.le_refl _)) hc hpl hL hd hp16 hlk (sRem_all Hk (c i) (L - 1) (hw.1 i) (hl.2 i) (by omega))
end Go.Proofs.YthdjmldddjljfaaGreatDoor
