/-
  OUR OWN.
-/
import Derived.Test.YthdjmldddjljfaaGreatDoorG48
set_option maxHeartbeats 8000000
set_option maxRecDepth 20000
namespace Go.Proofs.YthdjmldddjljfaaGreatDoor
open Go.RowKit
def wC (v4 v6 x0 r0 x1 r1 rts:Value):Array Value:=#[.slice none 0 0,.slice none 0 0,.slice none 0 0,v4,.slice none 0 0,v6,x0,r0,x1,r1,rts,.slice none 0 0,.string ⟨#[]⟩,.slice none 0 0,.slice none 0 0]
structure Mv (lo:Nat)(X:Nat→Prop)(w w' : World):Prop where
 bel:Below lo w w'
 other:∀(k:Nat) (o:Obj),w.heap[k]? = some o→¬X k→(∀cs t fr,o=.cells cs t fr→t≠282∧t≠285)→w'.heap[k]? = some o
 node:∀(ok:Nat→Prop) (q:Nd) (v:Value),(∀k,ok k→¬X k)→NdAt HkC ok w q v→NdAt HkC ok w' q v
theorem Mv.of_ex {lo:Nat}{X:Nat→Prop}{w w' : World}(h:Ex X w w')(hlo:lo≤w.heap.size)(hX:∀k,X k→lo≤k):Mv lo X w w' :=
 ⟨⟨h.os,h.tape,h.output,h.size,fun k hk=>h.block k (by omega) (fun hx=>by have:=hX k hx;omega)⟩,
  fun k o ho hx _=>by rw[h.block k (aGe.1 ho).1 hx];exact ho,
  fun ok q v hok hn=>NdAt.keepIn (fun b hb hbl=>h.block b hbl (hok b hb)) _ _ hn⟩
theorem Mv.of_below {lo:Nat}{X:Nat→Prop}{w w' : World}(h:Below w.heap.size w w')(hlo:lo≤w.heap.size):Mv lo X w w' :=
 ⟨h.mono hlo,fun k o ho _ _=>by rw[h.block k (aGe.1 ho).1];exact ho,fun _ _ _ _ hn=>hn.keep h⟩
theorem Mv.cells {lo:Nat}{X:Nat→Prop}{w w' : World}(h:Mv lo X w w'){k:Nat}{cs:Array Value}{t:TypeId}{fr:Nat×Nat}(hk:w.heap[k]? = some (.cells cs t fr))(hx:¬X k)(h1:t≠282)(h2:t≠285):w'.heap[k]? = some (.cells cs t fr) :=
 h.other k _ hk hx (fun cs' t' fr' e=>by
  injection e with _ e _
  exact⟨fun e' => h1 (e.trans e'),fun e' => h2 (e.trans e')⟩)
def Typed (w:World)(X:Nat→Prop)(P:TypeId→Prop):Prop:=∀(k:Nat) (cs:Array Value) (t:TypeId) (fr:Nat×Nat),X k→w.heap[k]? = some (.cells cs t fr)→P t
theorem Rows2.mv {te tr c lo lo' : Nat}{X:Nat→Prop}{P:TypeId→Prop}{w w' : World}{L:Value}{rows:List (Value×Nat)}(h:Rows2 te tr c lo w L rows)(hv:Mv lo' X w w')(hX:Typed w X P)(h1:¬P te)(h2:¬P tr)(e1:te≠282∧te≠285)(e2:tr≠282∧tr≠285):Rows2 te tr c lo w' L rows :=
 h.far (fun g cur t ht hg=>by
  rw[hg]
  rcases ht with rfl|rfl
  ·exact hv.cells hg (fun hx=>h1 (hX g _ _ _ hx hg)) e1.1 e1.2
  ·exact hv.cells hg (fun hx=>h2 (hX g _ _ _ hx hg)) e2.1 e2.2)
theorem own_mv {lo lo' e sz n:Nat}{X:Nat→Prop}{P:TypeId→Prop}{w w' : World}{v:Value}{xs:List Value}(h:w.ownsRow lo e sz v n xs)(hv:Mv lo' X w w')(hX:Typed w X P)(h1:¬P e)(e1:e≠282∧e≠285):w'.ownsRow lo e sz v n xs :=
 own_far h (fun g hg _=>by
  obtain⟨_,cur,hc⟩:=ownsRow_type h g hg
  rw[hc]
  exact hv.cells hc (fun hx=>h1 (hX g _ _ _ hx hc)) e1.1 e1.2)
def Twn (lo:Nat)(H:Nat→Prop)(w:World)(x r:Value)(m:Nat):Prop:=(x=.pointer none∧∃ro,r=.pointer ro)∨∃(ok:Nat→Prop) (T R M:Nat) (S lv:Value) (n:Nd),x=ptr T∧r=ptr R∧Duo ok w T R (.map (some M)) S lv n∧(n.flat []).length≤m∧H T∧H R∧∀k,ok k→lo≤k∧¬H k
theorem Twn.le {lo:Nat}{H:Nat→Prop}{w:World}{x r:Value}{m m' : Nat}(h:Twn lo H w x r m)(hm:m≤m'):Twn lo H w x r m' := by
 rcases h with h|⟨ok,T,R,M,S,lv,n,h1,h2,h3,h4,h5⟩
 ·exact .inl h
 ·exact .inr ⟨ok,T,R,M,S,lv,n,h1,h2,h3,Nat.le_trans h4 hm,h5⟩
theorem Twn.grow {lo:Nat}{H H' : Nat→Prop}{w:World}{x r:Value}{m:Nat}(h:Twn lo H w x r m)(hH:∀k,H k→H' k)(hn:∀k,H' k→H k∨w.heap.size≤k):Twn lo H' w x r m:=by
 rcases h with h|⟨ok,T,R,M,S,lv,n,h1,h2,h3,h4,h5,h6,h7⟩
 ·exact .inl h
 ·refine .inr ⟨ok,T,R,M,S,lv,n,h1,h2,h3,h4,hH T h5,hH R h6,fun k hk=>⟨(h7 k hk).1,fun hh=>?_⟩⟩
  rcases hn k hh with hh|hh
  ·exact (h7 k hk).2 hh
  ·have:=(h3.tree.blk k hk).1;omega
theorem Twn.mv {lo:Nat}{H H' X:Nat→Prop}{P:TypeId→Prop}{w w' : World}{x r:Value}{m:Nat}(h:Twn lo H w x r m)(hv:Mv lo X w w')(hXH:∀k,X k→H k)(hX:Typed w X P)(p1:¬P 118)(p2:¬P 3)(hT:∀T cs,x=ptr T→w.heap[T]? = some (.cells cs 71 (0,0))→¬X T)(hR:∀R cs,r=ptr R→w.heap[R]? = some (.cells cs 77 (0,0))→¬X R)(hH:∀k,H k→H' k)(hn:∀k,H' k→H k∨w.heap.size≤k):Twn lo H' w' x r m:=by
 rcases h with h|⟨ok,T,R,M,S,lv,n,h1,h2,h3,h4,h5,h6,h7⟩
 ·exact .inl h
 ·refine .inr ⟨ok,T,R,M,S,lv,n,h1,h2,⟨?_,?_,h3.tok,h3.keys⟩,h4,hH T h5,hH R h6,fun k hk=>⟨(h7 k hk).1,fun hh=>?_⟩⟩
  ·obtain⟨u,k1,k2⟩:=h3.tree.held
   exact⟨⟨u,hv.cells k1 (hT T _ h1 k1) (by decide) (by decide),hv.node _ _ _ (fun k hk hx=>(h7 k hk).2 (hXH k hx)) k2⟩,fun k hk=>⟨Nat.lt_of_lt_of_le (h3.tree.blk k hk).1 hv.bel.size,(h3.tree.blk k hk).2⟩⟩
  ·refine h3.ref.same ?_ (fun k cs t fr ht hc=>?_)
   ·rw[hv.cells h3.ref.box (hR R _ h2 h3.ref.box) (by decide) (by decide),h3.ref.box]
   ·refine hv.cells hc (fun hx=>?_) (by rcases ht with ht|ht<;>rw[ht]<;>decide) (by rcases ht with ht|ht<;>rw[ht]<;>decide)
    have hp:=hX k _ _ _ hx hc
    rcases ht with ht|ht
    ·rw[ht] at hp;exact p1 hp
    ·rw[ht] at hp;exact p2 hp
  ·rcases hn k hh with hh|hh
   ·exact (h7 k hk).2 hh
   ·have:=(h3.tree.blk k hk).1;omega
structure Sta (lo:Nat)(w0 w:World)(B:Nat)(v4 v6 x0 r0 x1 r1 rts:Value)(r4 r6:List (Value×Nat))(rl:List Value)(m:Nat)(H:Nat→Prop):Prop where
 bel:Below lo w0 w
 low:lo=w0.heap.size
 three:3≤lo
 tb:TbZ w
 box:w.heap[B]? = some (.cells (wC v4 v6 x0 r0 x1 r1 rts) 55 (0,0))
 l4:Rows2 33 27 4 lo w v4 r4
 l6:Rows2 125 22 1 lo w v6 r6
 rt:w.ownsRow lo 9 1 rts rl.length rl
 hB:H B
 h4:∀k,v4.ownBlock=some k→H k
 hr:∀k,rts.ownBlock=some k→H k
 hH:∀k,H k→lo≤k∧k<w.heap.size
 t0:Twn lo H w x0 r0 m
 t1:Twn lo H w x1 r1 m
 apx:∀T,x0=ptr T→x1=ptr T→False
 apr:∀T R T' ,x0=ptr T→x1=ptr T' → r0=ptr R→r1=ptr R→False
 four:r4.length % 4=0
theorem TbZ.bel {w w' : World}(h:TbZ w){lo:Nat}(h3:3≤lo)(hb:Below lo w w'):TbZ w' := by
 refine⟨⟨fun j hj=>?_,fun j hj=>?_⟩,Nat.le_trans h.three hb.size⟩
 ·exact (World.cell?_of_block (w:=w) (a:=⟨0,j,none⟩) (hb.block _ (Nat.lt_of_lt_of_le (by show 0 < 3;decide) h3))).trans (h.tabs.rcs j hj)
 ·exact (World.cell?_of_block (w:=w) (a:=⟨1,j,none⟩) (hb.block _ (Nat.lt_of_lt_of_le (by show 1 < 3;decide) h3))).trans (h.tabs.tus j hj)
theorem Sta.keep {lo:Nat}{w0 w w' : World}{B:Nat}{v4 v6 x0 r0 x1 r1 rts:Value}{r4 r6:List (Value×Nat)}{rl:List Value}{m:Nat}{H:Nat→Prop}(h:Sta lo w0 w B v4 v6 x0 r0 x1 r1 rts r4 r6 rl m H)(hb:Below w.heap.size w w'):Sta lo w0 w' B v4 v6 x0 r0 x1 r1 rts r4 r6 rl m H:=by
 have hlo:lo≤w.heap.size:=by have:=h.bel.size;have:=h.low;omega
 have hv:Mv lo (fun _=>False) w w' := Mv.of_below hb hlo
 have hX:Typed w (fun _=>False) (fun _=>False):=fun k cs t fr hx _=>hx
 exact {
  bel:=h.bel.trans (hb.mono hlo),low:=h.low,three:=h.three,tb:=h.tb.bel h.three hv.bel,
  box:=hv.cells h.box (fun h=>h) (by decide) (by decide),l4:=h.l4.keep hb,l6:=h.l6.keep hb,
  rt:=own_far h.rt (fun k _ hk=>hb.block k hk),hB:=h.hB,h4:=h.h4,hr:=h.hr,
  hH:=fun k hk=>⟨(h.hH k hk).1,Nat.lt_of_lt_of_le (h.hH k hk).2 hb.size⟩,
  t0:=h.t0.mv hv (fun _ h=>h.elim) hX (fun h=>h) (fun h=>h) (fun _ _ _ _ h=>h) (fun _ _ _ _ h=>h) (fun _ h=>h) (fun _ h=>.inl h),
  t1:=h.t1.mv hv (fun _ h=>h.elim) hX (fun h=>h) (fun h=>h) (fun _ _ _ _ h=>h) (fun _ _ _ _ h=>h) (fun _ h=>h) (fun _ h=>.inl h),
  apx:=h.apx,apr:=h.apr,four:=h.four }
theorem ptr_inj {a b:Nat}(h:ptr a=ptr b):a=b:=by simpa[ptr] using h
theorem Sta.root {lo:Nat}{w0 w w' : World}{B:Nat}{v4 v6 x0 r0 x1 r1 rts:Value}{r4 r6:List (Value×Nat)}{rl:List Value}{m:Nat}{H:Nat→Prop}{n:Nd}(h:Sta lo w0 w B v4 v6 x0 r0 x1 r1 rts r4 r6 rl m H)(ho:RootOut lo B (wC v4 v6 x0 r0 x1 r1 rts) rts rl.length rl n w w') :
  ∃rts' H', Sta lo w0 w' B v4 v6 x0 r0 x1 r1 rts' r4 r6 (rl++[.string (rootOf n)]) m H' := by
 obtain⟨h1,h2,h3,rts', h5,h6,h7⟩:=ho
 have hlo:lo≤w.heap.size:=by have:=h.bel.size;have:=h.low;omega
 have hv:Mv lo (fun k=>k=B∨some k=rts.ownBlock) w w' := ⟨h1,fun k o hk hx ht=>h2 k o hk (fun e=>hx (.inl e)) (fun e=>hx (.inr e)) ht,fun ok q v hok hn=>h3 ok q v (fun k hk=>⟨fun e=>hok k hk (.inl e),fun e=>hok k hk (.inr e)⟩) hn⟩
 have hX:Typed w (fun k=>k=B∨some k=rts.ownBlock) (fun t=>t=55∨t=9):=fun k cs t fr hx hc=>by
  rcases hx with e|e
  ·rw[e,h.box] at hc
   injection hc with hc
   injection hc with _ hc _
   exact .inl hc.symm
  ·obtain⟨_,cur,hc'⟩:=ownsRow_type h.rt k e.symm
   rw[hc'] at hc
   injection hc with hc
   injection hc with _ hc _
   exact .inr hc.symm
 have hXH:∀k,(k=B∨some k=rts.ownBlock)→H k:=fun k hx=>by
  rcases hx with e|e
  ·rw[e];exact h.hB
  ·exact h.hr k e.symm
 have hn:∀k,(H k∨rts'.ownBlock=some k)→H k∨w.heap.size≤k:=fun k hk=>by
  rcases hk with hk|hk
  ·exact .inl hk
  ·exact (h7 k hk).imp (h.hr k) id
 have twn:∀{x r:Value},Twn lo H w x r m→Twn lo (fun k=>H k∨rts'.ownBlock=some k) w' x r m:=fun ht =>
  ht.mv hv hXH hX (by decide) (by decide) (fun T cs _ hc hx=>absurd (hX T _ _ _ hx hc) (by decide)) (fun R cs _ hc hx=>absurd (hX R _ _ _ hx hc) (by decide)) (fun _ h=>.inl h) hn
 refine⟨rts', fun k=>H k∨rts'.ownBlock=some k,{
  bel:=h.bel.trans h1,low:=h.low,three:=h.three,tb:=h.tb.bel h.three h1,box:=h5,
  l4:=h.l4.mv hv hX (by decide) (by decide) ⟨by decide,by decide⟩ ⟨by decide,by decide⟩,
  l6:=h.l6.mv hv hX (by decide) (by decide) ⟨by decide,by decide⟩ ⟨by decide,by decide⟩,
  rt:=by rw[List.length_append];exact h6,
  hB:=.inl h.hB,h4:=fun k hk=>.inl (h.h4 k hk),hr:=fun k hk=>.inr hk,
  hH:=fun k hk=>?_,t0:=twn h.t0,t1:=twn h.t1,apx:=h.apx,apr:=h.apr,four:=h.four }⟩
 rcases hk with hk|hk
 ·exact⟨(h.hH k hk).1,Nat.lt_of_lt_of_le (h.hH k hk).2 h1.size⟩
 ·have:=h6.lt k hk
  exact⟨own_ge h6 (Nat.le_refl _) k hk,this.2⟩
theorem Sta.each {lo:Nat}{w0 w w' : World}{B:Nat}{v4 v6 x0 r0 x1 r1 rts:Value}{r4 r6:List (Value×Nat)}{rl:List Value}{m q:Nat}{H:Nat→Prop}(h:Sta lo w0 w B v4 v6 x0 r0 x1 r1 rts r4 r6 rl m H)(hq:q=r4.length / 4)(ho:EachOut lo B (wC v4 v6 x0 r0 x1 r1 rts) v4 r4.length q (r4.map Prod.fst) w w') :
  ∃v4' r4' H', r4'.length=r4.length+4∧Sta lo w0 w' B v4' v6 x0 r0 x1 r1 rts r4' r6 rl m H' := by
 obtain⟨h1,L', lv,x,y,z,n,hn100,h2,h3,m1,m2,m3,m4,h7⟩:=ho
 have hlo:lo≤w.heap.size:=by have:=h.bel.size;have:=h.low;omega
 have hXH:∀k,(k=B∨some k=v4.ownBlock)→H k:=fun k hx=>by
  rcases hx with e|e
  ·rw[e];exact h.hB
  ·exact h.h4 k e.symm
 have hv:Mv lo (fun k=>k=B∨some k=v4.ownBlock) w w' := Mv.of_ex h1 hlo (fun k hk=>(h.hH k (hXH k hk)).1)
 have hX:Typed w (fun k=>k=B∨some k=v4.ownBlock) (fun t=>t=55∨t=27):=fun k cs t fr hx hc=>by
  rcases hx with e|e
  ·rw[e,h.box] at hc
   injection hc with hc
   injection hc with _ hc _
   exact .inl hc.symm
  ·obtain⟨_,cur,hc'⟩:=ownsRow_type h.l4.own k e.symm
   rw[hc'] at hc
   injection hc with hc
   injection hc with _ hc _
   exact .inr hc.symm
 have hn:∀k,(H k∨L'.ownBlock=some k)→H k∨w.heap.size≤k:=fun k hk=>by
  rcases hk with hk|hk
  ·exact .inl hk
  ·exact (h7 k hk).imp (h.h4 k) id
 have twn:∀{x r:Value},Twn lo H w x r m→Twn lo (fun k=>H k∨L'.ownBlock=some k) w' x r m:=fun ht =>
  ht.mv hv hXH hX (by decide) (by decide) (fun T cs _ hc hx=>absurd (hX T _ _ _ hx hc) (by decide)) (fun R cs _ hc hx=>absurd (hX R _ _ _ hx hc) (by decide)) (fun _ h=>.inl h) hn
 refine⟨L', r4++[(lv,n),(x,n+1),(y,n+2),(z,n+3)],fun k=>H k∨L'.ownBlock=some k,by simp,{
  bel:=h.bel.trans hv.bel,low:=h.low,three:=h.three,tb:=h.tb.bel h.three hv.bel,box:=h2,
  l4:=⟨by rw[List.length_append,List.map_append];exact h3,fun i hi=>?_,fun r hr=>?_⟩,
  l6:=h.l6.mv hv hX (by decide) (by decide) ⟨by decide,by decide⟩ ⟨by decide,by decide⟩,
  rt:=own_mv h.rt hv hX (by decide) ⟨by decide,by decide⟩,
  hB:=.inl h.hB,h4:=fun k hk=>.inr hk,hr:=fun k hk=>.inl (h.hr k hk),
  hH:=fun k hk=>?_,t0:=twn h.t0,t1:=twn h.t1,apx:=h.apx,apr:=h.apr,four:=by rw[List.length_append];have:=h.four;simp;omega }⟩
 ·have hf:=h.four
  by_cases hil:i<r4.length
  ·rw[List.getElem_append_left hil]
   refine (h.l4.marks i hil).far (fun g cur _ hc=>?_)
   rw[hc]
   exact hv.cells hc (fun hx=>absurd (hX g _ _ _ hx hc) (by decide)) (by decide) (by decide)
  ·rw[List.getElem_append_right (by omega)]
   have hd:i / 4=q:=by simp at hi;omega
   rw[hd]
   have hj:i - r4.length=0∨i - r4.length=1∨i - r4.length=2∨i - r4.length=3:=by simp at hi;omega
   rcases hj with e|e|e|e
   ·obtain rfl:i=r4.length:=by omega
    simpa using m1
   ·obtain rfl:i=r4.length+1:=by omega
    simpa using m2
   ·obtain rfl:i=r4.length+2:=by omega
    simpa using m3
   ·obtain rfl:i=r4.length+3:=by omega
    simpa using m4
 ·rcases List.mem_append.1 hr with hr|hr
  ·exact h.l4.short r hr
  ·simp at hr
   rcases hr with rfl|rfl|rfl|rfl<;>dsimp only<;>omega
 ·rcases hk with hk|hk
  ·exact⟨(h.hH k hk).1,Nat.lt_of_lt_of_le (h.hH k hk).2 hv.bel.size⟩
  ·exact⟨own_ge h3 (Nat.le_refl _) k hk,(h3.lt k hk).2⟩
theorem Sta.change {lo:Nat}{w0 w w' : World}{B:Nat}{v4 v6 x0 r0 x1 r1 rts:Value}{r4 r6:List (Value×Nat)}{rl:List Value}{m d:Nat}{H:Nat→Prop}{ok:Nat→Prop}{T R M:Nat}{S lv:Value}{n n' : Nd}(h:Sta lo w0 w B v4 v6 x0 r0 x1 r1 rts r4 r6 rl m H)(hD:Duo ok w T R (.map (some M)) S lv n)(hHT:H T)(hHR:H R)(hok:∀k,ok k→lo≤k∧¬H k)(hw:(x0=ptr T∧r0=ptr R)∨(x1=ptr T∧r1=ptr R))(hn:(n'.flat []).length≤m+d)
  {e:Ending} (ho:ChOut ok T R (.map (some M)) S n' w e w'):Sta lo w0 w' B v4 v6 x0 r0 x1 r1 rts r4 r6 rl (m+d) H:=by
 obtain⟨_,h1,lv', ok', hD', hok'⟩:=ho
 have hlo:lo≤w.heap.size:=by have:=h.bel.size;have:=h.low;omega
 have hXH:∀k,(k=T∨k=R)→H k:=fun k hx=>by rcases hx with e|e<;>rw[e]<;>assumption
 have hv:Mv lo (fun k=>k=T∨k=R) w w' := Mv.of_ex h1 hlo (fun k hk=>(h.hH k (hXH k hk)).1)
 have hX:Typed w (fun k=>k=T∨k=R) (fun t=>t=71∨t=77):=fun k cs t fr hx hc=>by
  rcases hx with e|e
  ·exact .inl ((twoTypes hD k cs t fr hc).1 e)
  ·exact .inr ((twoTypes hD k cs t fr hc).2 e)
 have hnew:Twn lo H w' (ptr T) (ptr R) (m+d):=.inr ⟨ok', T,R,M,S,lv', n', rfl,rfl,hD', hn,hHT,hHR,fun k hk=>by
  rcases hok' k hk with hk|hk
  ·exact hok k hk
  ·exact⟨by omega,fun hh=>by have:=(h.hH k hh).2;omega⟩⟩
 have hTR:=hD.ne
 have hold:∀{x r:Value},Twn lo H w x r m→(x=ptr T→False)→(∀T', x=ptr T' → r=ptr R→False)→Twn lo H w' x r (m+d):=fun {x r} ht a1 a2=>by
  refine Twn.le ?_ (Nat.le_add_right m d)
  rcases ht with ht' | ht'
  ·exact .inl ht'
  ·obtain⟨ok2,T2,R2,M2,S2,lv2,n2,k1,k2,k3⟩:=ht'
   refine Twn.mv (.inr ⟨ok2,T2,R2,M2,S2,lv2,n2,k1,k2,k3⟩) hv hXH hX (by decide) (by decide) (fun T3 cs e hc hx=>?_) (fun R3 cs e hc hx=>?_) (fun _ h=>h) (fun _ h=>.inl h)
   ·rcases hx with hx|hx
    ·exact a1 (by rw[e,hx])
    ·have:=(twoTypes hD T3 _ _ _ hc).2 hx
     exact absurd this (by decide)
   ·rcases hx with hx|hx
    ·have:=(twoTypes hD R3 _ _ _ hc).1 hx
     exact absurd this (by decide)
    ·exact a2 T2 k1 (by rw[e,hx])
 have hbase:∀(t0' : Twn lo H w' x0 r0 (m+d)) (t1' : Twn lo H w' x1 r1 (m+d)),Sta lo w0 w' B v4 v6 x0 r0 x1 r1 rts r4 r6 rl (m+d) H:=fun t0' t1' => {
  bel:=h.bel.trans hv.bel,low:=h.low,three:=h.three,tb:=h.tb.bel h.three hv.bel,
  box:=hv.cells h.box (fun hx=>absurd (hX B _ _ _ hx h.box) (by decide)) (by decide) (by decide),
  l4:=h.l4.mv hv hX (by decide) (by decide) ⟨by decide,by decide⟩ ⟨by decide,by decide⟩,
  l6:=h.l6.mv hv hX (by decide) (by decide) ⟨by decide,by decide⟩ ⟨by decide,by decide⟩,
  rt:=own_mv h.rt hv hX (by decide) ⟨by decide,by decide⟩,
  hB:=h.hB,h4:=h.h4,hr:=h.hr,hH:=fun k hk=>⟨(h.hH k hk).1,Nat.lt_of_lt_of_le (h.hH k hk).2 hv.bel.size⟩,
  t0:=t0', t1:=t1', apx:=h.apx,apr:=h.apr,four:=h.four }
 rcases hw with⟨e1,e2⟩|⟨e1,e2⟩
 ·refine hbase (by rw[e1,e2];exact hnew) (hold h.t1 (fun e=>h.apx T e1 e) (fun T' e e' => h.apr T R T' e1 e e2 e'))
 ·refine hbase (hold h.t0 (fun e=>h.apx T e e1) (fun T' e e' => h.apr T' R T e e1 e' e2)) (by rw[e1,e2];exact hnew)
structure OpD where
 kind:Int
 on:Int
 s:ByteArray
 z:Int
 pa:Option Addr
 pc:Nat
 ps:List Pr
 ka:Option Addr
 kc:Nat
 ks:List ByteArray
def OpD.pv (o:OpD):Value:=.slice o.pa o.ps.length o.pc
def OpD.kv (o:OpD):Value:=.slice o.ka o.ks.length o.kc
def OpD.val (o:OpD):Value:=opV o.kind o.on o.s o.z o.pv o.kv
structure OpD.Ok (w:World)(o:OpD):Prop where
 prs:Prs w o.pa o.ps
 kys:Kys w o.ka o.ks
 size:o.s.size≤2000000
 z1:-9223372036854775808≤o.z
 z2:o.z≤9223372036854775807
def After (lo:Nat)(w0:World)(B:Nat)(v6 x0 r0 x1 r1:Value)(r6:List (Value×Nat))(a b c:Nat)(w:World):Prop:=∃v4 rts r4 rl m H,Sta lo w0 w B v4 v6 x0 r0 x1 r1 rts r4 r6 rl m H∧r4.length≤a∧rl.length≤b∧m≤c
structure Tw1 (lo:Nat)(H:Nat→Prop)(w:World)(x0 r0 x1 r1:Value)(m:Nat)(ok:Nat→Prop)(T R M:Nat)(S lv:Value)(n:Nd):Prop where
 D:Duo ok w T R (.map (some M)) S lv n
 len:(n.flat []).length≤m
 hT:H T
 hR:H R
 hok:∀k,ok k→lo≤k∧¬H k
 hw:(x0=ptr T∧r0=ptr R)∨(x1=ptr T∧r1=ptr R)
theorem Sta.bel0 {lo:Nat}{w0 w:World}{B:Nat}{v4 v6 x0 r0 x1 r1 rts:Value}{r4 r6:List (Value×Nat)}{rl:List Value}{m:Nat}{H:Nat→Prop}(h:Sta lo w0 w B v4 v6 x0 r0 x1 r1 rts r4 r6 rl m H):Below w0.heap.size w0 w:=by
 have:=h.bel
 rw[h.low] at this
 exact this
theorem act_put {lo:Nat}{w0 w:World}{B:Nat}{v4 v6 x0 r0 x1 r1 rts:Value}{r4 r6:List (Value×Nat)}{rl:List Value}{m:Nat}{H:Nat→Prop}{ok:Nat→Prop}{T R M:Nat}{S lv:Value}{n:Nd}(h:Sta lo w0 w B v4 v6 x0 r0 x1 r1 rts r4 r6 rl m H)(t:Tw1 lo H w x0 r0 x1 r1 m ok T R M S lv n)(o:OpD)(_ho:o.Ok w0)(hm:m+o.ps.length+o.ks.length≤100000000)(_h4:r4.length+4≤10000000)(_hr:rl.length≤10000000) :
  ∀W,Below w.heap.size w W→Calls Tryz.prog 27 #[.pointer (some ⟨B,0,none⟩),.agg #[.pointer (some ⟨T,0,none⟩),.pointer (some ⟨R,0,none⟩)],opV 1 o.on o.s o.z o.pv o.kv] W fun e w' => e=.returned (.bool true)∧After lo w0 B v6 x0 r0 x1 r1 r6 (r4.length+4) (rl.length+1) (m+o.ps.length+o.ks.length) w' := by
 intro W hW
 have h' := h.keep hW
 have hD:=t.D.keep hW
 have hlen:=t.len
 refine (changes_put_any ok (.pointer (some ⟨B,0,none⟩)) T R _ S lv n o.on o.z o.s o.kv o.pa o.pc o.ps W hD (_ho.prs.keep h'.bel0) (by omega) (fun i hi a ha=>?_) (fun hr=>(t.hok R hr).2 t.hR)).mono ?_
 ·obtain⟨g,off,e,q,_⟩:=_ho.prs i hi
  have hb:=World.block_lt_of_cell? w0 _ q
  rw[e] at ha
  injection ha with ha
  have hl:=h.low
  have h1:=(h.hH T t.hT).1
  have h2:=(h.hH R t.hR).1
  rw[←ha]
  show g≠T∧g≠R
  have hb' : g<w0.heap.size:=hb
  omega
 ·rintro e w' hc
  refine⟨hc.1,_,_,_,_,_,_,h'.change (d:=o.ps.length) hD t.hT t.hR t.hok t.hw ?_ hc,by omega,by omega,by omega⟩
  have h3:=(putN_ok hD.tok hD.keys o.ps).2.2
  omega
theorem act_del {lo:Nat}{w0 w:World}{B:Nat}{v4 v6 x0 r0 x1 r1 rts:Value}{r4 r6:List (Value×Nat)}{rl:List Value}{m:Nat}{H:Nat→Prop}{ok:Nat→Prop}{T R M:Nat}{S lv:Value}{n:Nd}(h:Sta lo w0 w B v4 v6 x0 r0 x1 r1 rts r4 r6 rl m H)(t:Tw1 lo H w x0 r0 x1 r1 m ok T R M S lv n)(o:OpD)(_ho:o.Ok w0)(hm:m+o.ps.length+o.ks.length≤100000000)(_h4:r4.length+4≤10000000)(_hr:rl.length≤10000000) :
  ∀W,Below w.heap.size w W→Calls Tryz.prog 27 #[.pointer (some ⟨B,0,none⟩),.agg #[.pointer (some ⟨T,0,none⟩),.pointer (some ⟨R,0,none⟩)],opV 2 o.on o.s o.z o.pv o.kv] W fun e w' => e=.returned (.bool true)∧After lo w0 B v6 x0 r0 x1 r1 r6 (r4.length+4) (rl.length+1) (m+o.ps.length+o.ks.length) w' := by
 intro W hW
 have h' := h.keep hW
 have hD:=t.D.keep hW
 have hlen:=t.len
 refine (changes_del_any ok (.pointer (some ⟨B,0,none⟩)) T R _ S lv n o.on o.z o.s o.pv o.ka o.kc o.ks W hD (_ho.kys.keep h'.bel0) (by omega) (fun i hi a ha=>?_) (fun hr=>(t.hok R hr).2 t.hR)).mono ?_
 ·obtain⟨g,off,e,q⟩:=_ho.kys i hi
  have hb:=World.block_lt_of_cell? w0 _ q
  rw[e] at ha
  injection ha with ha
  have hl:=h.low
  have h1:=(h.hH T t.hT).1
  have h2:=(h.hH R t.hR).1
  rw[←ha]
  show g≠T∧g≠R
  have hb' : g<w0.heap.size:=hb
  omega
 ·rintro e w' hc
  refine⟨hc.1,_,_,_,_,_,_,h'.change (d:=o.ks.length) hD t.hT t.hR t.hok t.hw ?_ hc,by omega,by omega,by omega⟩
  have h3:=(putN_ok hD.tok hD.keys (delP o.ks)).2.2
  rw[delP_len] at h3
  omega
theorem act_get {lo:Nat}{w0 w:World}{B:Nat}{v4 v6 x0 r0 x1 r1 rts:Value}{r4 r6:List (Value×Nat)}{rl:List Value}{m:Nat}{H:Nat→Prop}{ok:Nat→Prop}{T R M:Nat}{S lv:Value}{n:Nd}(h:Sta lo w0 w B v4 v6 x0 r0 x1 r1 rts r4 r6 rl m H)(t:Tw1 lo H w x0 r0 x1 r1 m ok T R M S lv n)(o:OpD)(_ho:o.Ok w0)(hm:m+o.ps.length+o.ks.length≤100000000)(_h4:r4.length+4≤10000000)(_hr:rl.length≤10000000) :
  ∀W,Below w.heap.size w W→Calls Tryz.prog 16 #[.pointer (some ⟨B,0,none⟩),.agg #[.pointer (some ⟨T,0,none⟩),.pointer (some ⟨R,0,none⟩)],opV 3 o.on o.s o.z o.pv o.kv] W fun e w' => e=.returned (.bool true)∧After lo w0 B v6 x0 r0 x1 r1 r6 (r4.length+4) (rl.length+1) (m+o.ps.length+o.ks.length) w' := by
 intro W hW
 have h' := h.keep hW
 have hD:=t.D.keep hW
 have hlen:=t.len
 refine (asks_get_any ok B T R _ S lv n o.on o.z o.s o.pv o.kv W hD (by omega)).mono ?_
 rintro e w' ⟨he,hb⟩
 exact⟨he,_,_,_,_,_,_,h'.keep hb,by omega,by omega,by omega⟩
theorem act_root {lo:Nat}{w0 w:World}{B:Nat}{v4 v6 x0 r0 x1 r1 rts:Value}{r4 r6:List (Value×Nat)}{rl:List Value}{m:Nat}{H:Nat→Prop}{ok:Nat→Prop}{T R M:Nat}{S lv:Value}{n:Nd}(h:Sta lo w0 w B v4 v6 x0 r0 x1 r1 rts r4 r6 rl m H)(t:Tw1 lo H w x0 r0 x1 r1 m ok T R M S lv n)(o:OpD)(_ho:o.Ok w0)(hm:m+o.ps.length+o.ks.length≤100000000)(_h4:r4.length+4≤10000000)(_hr:rl.length≤10000000) :
  ∀W,Below w.heap.size w W→Calls Tryz.prog 16 #[.pointer (some ⟨B,0,none⟩),.agg #[.pointer (some ⟨T,0,none⟩),.pointer (some ⟨R,0,none⟩)],opV 4 o.on o.s o.z o.pv o.kv] W fun e w' => e=.returned (.bool true)∧After lo w0 B v6 x0 r0 x1 r1 r6 (r4.length+4) (rl.length+1) (m+o.ps.length+o.ks.length) w' := by
 intro W hW
 have h' := h.keep hW
 have hD:=t.D.keep hW
 have hlen:=t.len
 refine (asks_root_any ok B T R lo rl.length _ _ S lv rts rl n o.on o.z o.s o.pv o.kv W hD h'.tb (by omega) h'.box rfl h'.rt h.three (h.hH B h.hB).1 (fun k hk=>(t.hok k hk).1) (by omega)).mono ?_
 rintro e w' ⟨he,hc⟩
 obtain⟨rts', H', hs⟩:=h'.root hc
 exact⟨he,_,_,_,_,_,_,hs,by omega,by simp,by omega⟩
theorem act_each {lo:Nat}{w0 w:World}{B:Nat}{v4 v6 x0 r0 x1 r1 rts:Value}{r4 r6:List (Value×Nat)}{rl:List Value}{m:Nat}{H:Nat→Prop}{ok:Nat→Prop}{T R M:Nat}{S lv:Value}{n:Nd}(h:Sta lo w0 w B v4 v6 x0 r0 x1 r1 rts r4 r6 rl m H)(t:Tw1 lo H w x0 r0 x1 r1 m ok T R M S lv n)(o:OpD)(_ho:o.Ok w0)(hm:m+o.ps.length+o.ks.length≤100000000)(_h4:r4.length+4≤10000000)(_hr:rl.length≤10000000) :
  ∀W,Below w.heap.size w W→Calls Tryz.prog 16 #[.pointer (some ⟨B,0,none⟩),.agg #[.pointer (some ⟨T,0,none⟩),.pointer (some ⟨R,0,none⟩)],opV 5 o.on o.s o.z o.pv o.kv] W fun e w' => e=.returned (.bool true)∧After lo w0 B v6 x0 r0 x1 r1 r6 (r4.length+4) (rl.length+1) (m+o.ps.length+o.ks.length) w' := by
 intro W hW
 have h' := h.keep hW
 have hD:=t.D.keep hW
 have hlen:=t.len
 have hlo:lo≤W.heap.size:=by have:=h'.bel.size;have:=h.low;omega
 refine (asks_each_any ok B T R lo M r4.length (r4.length / 4) _ S lv v4 (r4.map Prod.fst) n o.on o.z o.s o.pv o.kv W hD (by omega) _ho.size _ho.z1 _ho.z2 h'.box rfl h'.l4.own (by omega) (by omega) hlo).mono ?_
 rintro e w' ⟨he,hc⟩
 obtain⟨v4', r4', H', hl,hs⟩:=h'.each rfl hc
 exact⟨he,_,_,_,_,_,_,hs,by omega,by omega,by omega⟩
theorem step_par0 {lo:Nat}{w0 w:World}{B:Nat}{v4 v6 x0 r0 x1 r1 rts:Value}{r4 r6:List (Value×Nat)}{rl:List Value}{m:Nat}{H:Nat→Prop}(h:Sta lo w0 w B v4 v6 x0 r0 x1 r1 rts r4 r6 rl m H)(o:OpD)(ho:o.Ok w0)(hk:o.kind≤5)(hm:m+o.ps.length+o.ks.length≤100000000)(h4:r4.length+4≤10000000)(hr:rl.length≤10000000)(hon:(o.on.tmod 2 != 0)=false) :
  Calls Tryz.prog 14 #[.pointer (some ⟨B,0,none⟩),o.val] w fun e w' => e=.returned (.bool true)∧After lo w0 B v6 x0 r0 x1 r1 r6 (r4.length+4) (rl.length+1) (m+o.ps.length+o.ks.length) w' := by
 have h6:w.cell? ⟨B,6,none⟩=some x0:=cell_of_row _ _ 6 _ _ (0,0) h.box
 have h7:w.cell? ⟨B,7,none⟩=some r0:=cell_of_row _ _ 7 _ _ (0,0) h.box
 have stay:∀e w', (e=Ending.returned (.bool true)∧Below w.heap.size w w')→e=.returned (.bool true)∧After lo w0 B v6 x0 r0 x1 r1 r6 (r4.length+4) (rl.length+1) (m+o.ps.length+o.ks.length) w' := fun e w' hc=>⟨hc.1,_,_,_,_,_,_,h.keep hc.2,by omega,by omega,by omega⟩
 rcases h.t0 with⟨hx,ro,hro⟩|⟨ok,T,R,M,S,lv,n,hx,hro,hD,hlen,hT,hR,hok⟩
 ·rw[hx] at h6
  rw[hro] at h7
  exact (step_none0 B ro o.kind o.on o.z o.s o.pv o.kv w hon h6 h7).mono stay
 ·have t:Tw1 lo H w x0 r0 x1 r1 m ok T R M S lv n:=⟨hD,hlen,hT,hR,hok,.inl ⟨hx,hro⟩⟩
  rw[hx] at h6
  rw[hro] at h7
  by_cases hk0:o.kind≤0
  ·exact (step_other0 B ⟨T,0,none⟩ (some ⟨R,0,none⟩) o.kind o.on o.z o.s o.pv o.kv w hk0 hon h6 h7).mono stay
  have hk5:o.kind=1∨o.kind=2∨o.kind=3∨o.kind=4∨o.kind=5:=by omega
  rcases hk5 with e|e|e|e|e
  ·unfold OpD.val
   rw[e]
   exact step_put0 _ B ⟨T,0,none⟩ (some ⟨R,0,none⟩) o.on o.z o.s o.pv o.kv w hon h6 h7 (act_put h t o ho hm h4 hr)
  ·unfold OpD.val
   rw[e]
   exact step_del0 _ B ⟨T,0,none⟩ (some ⟨R,0,none⟩) o.on o.z o.s o.pv o.kv w hon h6 h7 (act_del h t o ho hm h4 hr)
  ·unfold OpD.val
   rw[e]
   exact step_get0 _ B ⟨T,0,none⟩ (some ⟨R,0,none⟩) o.on o.z o.s o.pv o.kv w hon h6 h7 (act_get h t o ho hm h4 hr)
  ·unfold OpD.val
   rw[e]
   exact step_root0 _ B ⟨T,0,none⟩ (some ⟨R,0,none⟩) o.on o.z o.s o.pv o.kv w hon h6 h7 (act_root h t o ho hm h4 hr)
  ·unfold OpD.val
   rw[e]
   exact step_each0 _ B ⟨T,0,none⟩ (some ⟨R,0,none⟩) o.on o.z o.s o.pv o.kv w hon h6 h7 (act_each h t o ho hm h4 hr)
theorem step_par1 {lo:Nat}{w0 w:World}{B:Nat}{v4 v6 x0 r0 x1 r1 rts:Value}{r4 r6:List (Value×Nat)}{rl:List Value}{m:Nat}{H:Nat→Prop}(h:Sta lo w0 w B v4 v6 x0 r0 x1 r1 rts r4 r6 rl m H)(o:OpD)(ho:o.Ok w0)(hk:o.kind≤5)(hm:m+o.ps.length+o.ks.length≤100000000)(h4:r4.length+4≤10000000)(hr:rl.length≤10000000)(hon:(o.on.tmod 2 != 0)=true) :
  Calls Tryz.prog 14 #[.pointer (some ⟨B,0,none⟩),o.val] w fun e w' => e=.returned (.bool true)∧After lo w0 B v6 x0 r0 x1 r1 r6 (r4.length+4) (rl.length+1) (m+o.ps.length+o.ks.length) w' := by
 have h6:w.cell? ⟨B,8,none⟩=some x1:=cell_of_row _ _ 8 _ _ (0,0) h.box
 have h7:w.cell? ⟨B,9,none⟩=some r1:=cell_of_row _ _ 9 _ _ (0,0) h.box
 have stay:∀e w', (e=Ending.returned (.bool true)∧Below w.heap.size w w')→e=.returned (.bool true)∧After lo w0 B v6 x0 r0 x1 r1 r6 (r4.length+4) (rl.length+1) (m+o.ps.length+o.ks.length) w' := fun e w' hc=>⟨hc.1,_,_,_,_,_,_,h.keep hc.2,by omega,by omega,by omega⟩
 rcases h.t1 with⟨hx,ro,hro⟩|⟨ok,T,R,M,S,lv,n,hx,hro,hD,hlen,hT,hR,hok⟩
 ·rw[hx] at h6
  rw[hro] at h7
  exact (step_none1 B ro o.kind o.on o.z o.s o.pv o.kv w hon h6 h7).mono stay
 ·have t:Tw1 lo H w x0 r0 x1 r1 m ok T R M S lv n:=⟨hD,hlen,hT,hR,hok,.inr ⟨hx,hro⟩⟩
  rw[hx] at h6
  rw[hro] at h7
  by_cases hk0:o.kind≤0
  ·exact (step_other1 B ⟨T,0,none⟩ (some ⟨R,0,none⟩) o.kind o.on o.z o.s o.pv o.kv w hk0 hon h6 h7).mono stay
  have hk5:o.kind=1∨o.kind=2∨o.kind=3∨o.kind=4∨o.kind=5:=by omega
  rcases hk5 with e|e|e|e|e
  ·unfold OpD.val
   rw[e]
   exact step_put1 _ B ⟨T,0,none⟩ (some ⟨R,0,none⟩) o.on o.z o.s o.pv o.kv w hon h6 h7 (act_put h t o ho hm h4 hr)
  ·unfold OpD.val
   rw[e]
   exact step_del1 _ B ⟨T,0,none⟩ (some ⟨R,0,none⟩) o.on o.z o.s o.pv o.kv w hon h6 h7 (act_del h t o ho hm h4 hr)
  ·unfold OpD.val
   rw[e]
   exact step_get1 _ B ⟨T,0,none⟩ (some ⟨R,0,none⟩) o.on o.z o.s o.pv o.kv w hon h6 h7 (act_get h t o ho hm h4 hr)
  ·unfold OpD.val
   rw[e]
   exact step_root1 _ B ⟨T,0,none⟩ (some ⟨R,0,none⟩) o.on o.z o.s o.pv o.kv w hon h6 h7 (act_root h t o ho hm h4 hr)
  ·unfold OpD.val
   rw[e]
   exact step_each1 _ B ⟨T,0,none⟩ (some ⟨R,0,none⟩) o.on o.z o.s o.pv o.kv w hon h6 h7 (act_each h t o ho hm h4 hr)
theorem step_any {lo:Nat}{w0 w:World}{B:Nat}{v4 v6 x0 r0 x1 r1 rts:Value}{r4 r6:List (Value×Nat)}{rl:List Value}{m:Nat}{H:Nat→Prop}(h:Sta lo w0 w B v4 v6 x0 r0 x1 r1 rts r4 r6 rl m H)(o:OpD)(ho:o.Ok w0)(hk:o.kind≤5)(hm:m+o.ps.length+o.ks.length≤100000000)(h4:r4.length+4≤10000000)(hr:rl.length≤10000000) :
  Calls Tryz.prog 14 #[.pointer (some ⟨B,0,none⟩),o.val] w fun e w' => e=.returned (.bool true)∧After lo w0 B v6 x0 r0 x1 r1 r6 (r4.length+4) (rl.length+1) (m+o.ps.length+o.ks.length) w' := by
 rcases hon:(o.on.tmod 2 != 0) with _|_
 ·exact step_par0 h o ho hk hm h4 hr hon
 ·exact step_par1 h o ho hk hm h4 hr hon
theorem Sta.looks {lo:Nat}{w0 w:World}{B:Nat}{v4 v6 x0 r0 x1 r1 rts:Value}{r4 r6:List (Value×Nat)}{rl:List Value}{m:Nat}{H:Nat→Prop}(h:Sta lo w0 w B v4 v6 x0 r0 x1 r1 rts r4 r6 rl m H)(h4:r4.length≤10000000)(h6:r6.length≤10000000) :
  Calls Tryz.prog 15 #[.pointer (some ⟨B,0,none⟩)] w fun e w' => e=.returned (.bool true)∧Below w.heap.size w w' := by
 refine looks2_any B lo v4 v6 r4 r6 w (fun i hi=>?_) (cell_of_row _ _ 4 _ _ (0,0) h.box) (cell_of_row _ _ 3 _ _ (0,0) h.box) (cell_of_row _ _ 5 _ _ (0,0) h.box) h.l4 h.l6 h4 h6
 obtain rfl|rfl|rfl:i=0∨i=1∨i=2:=by omega
 ·exact cell_of_row _ _ 0 _ _ (0,0) h.box
 ·exact cell_of_row _ _ 1 _ _ (0,0) h.box
 ·exact cell_of_row _ _ 2 _ _ (0,0) h.box
theorem rt_nil {w:World}{R:Nat}{S:Value}(h:w.heap[R]? = some (.cells #[S,.slice none 0 0] 77 (0,0))):RT w R S (.slice none 0 0) .nil:=⟨h,[],⟨fun _=>false,rfl⟩,.inl ⟨rfl,rfl⟩⟩
theorem MadeTwin.twn {es:List Pr}{lo:Nat}{H:Nat→Prop}{w w' W:World}{x r:Value}(h:MadeTwin es w w' x r)(hT:∀T cs,x=ptr T→w'.heap[T]? = some (.cells cs 71 (0,0))→W.heap[T]? = some (.cells cs 71 (0,0)))(hR:∀R cs,r=ptr R→w'.heap[R]? = some (.cells cs 77 (0,0))→W.heap[R]? = some (.cells cs 77 (0,0)))(hH:∀T R,x=ptr T→r=ptr R→H T∧H R):Twn lo H W x r 0:=by
 rcases h with⟨h1,h2⟩|⟨T,M,R,S,h1,h2,_,_,_,_,_,ht,hr,_⟩
 ·exact .inl ⟨h1,_,h2⟩
 ·refine .inr ⟨fun _=>False,T,R,M,ptr S,.slice none 0 0,.nil,h1,h2,⟨ht.nil_same (fun cs hc=>hT T cs h1 hc),rt_nil (hR R _ h2 hr),TOk.nil,KeysOk.nil0⟩,by simp[Nd.flat],(hH T R h1 h2).1,(hH T R h1 h2).2,fun k hk=>hk.elim⟩
theorem MadeTwin.lt {es:List Pr}{w w' : World}{x r:Value}(h:MadeTwin es w w' x r):(∀T,x=ptr T→w.heap.size≤T∧T<w'.heap.size∧∃cs,w'.heap[T]? = some (.cells cs 71 (0,0)))∧(∀R,r=ptr R→w.heap.size≤R∧R<w'.heap.size∧∃cs,w'.heap[R]? = some (.cells cs 77 (0,0))):=by
 rcases h with⟨h1,h2⟩|⟨T,M,R,S,h1,h2,g1,g2,_,_,_,ht,hr,_⟩
 ·refine⟨fun T e=>?_,fun R e=>?_⟩
  ·rw[h1] at e;simp[ptr] at e
  ·rw[h2] at e;simp[ptr] at e
 ·refine⟨fun T' e=>?_,fun R' e=>?_⟩
  ·obtain rfl:=ptr_inj (h1.symm.trans e)
   obtain⟨u,k1,_⟩:=ht.held
   exact⟨g1,ht.lt,_,k1⟩
  ·obtain rfl:=ptr_inj (h2.symm.trans e)
   exact⟨g2,(aGe.1 hr).1,_,hr⟩
theorem MadeTwin.form {es:List Pr}{w w' : World}{x r:Value}(h:MadeTwin es w w' x r):∃xo ro,x=.pointer xo∧r=.pointer ro:=by
 rcases h with⟨h1,h2⟩|⟨T,M,R,S,h1,h2,_⟩
 ·exact⟨_,_,h1,h2⟩
 ·exact⟨_,_,h1,h2⟩
def H0 (B:Nat)(x0 r0 x1 r1:Value)(k:Nat):Prop:=k=B∨x0=ptr k∨r0=ptr k∨x1=ptr k∨r1=ptr k
theorem sta_start {ea eb:List Pr}{w W0 w1 W1 w2 W2:World}{B na nb g1 g2:Nat}{v6 v6' x0 r0 x1 r1:Value}(hTb:TbZ w)(hb0:Below w.heap.size w W0)(hB0:W0.heap[B]? = some (.cells (wC (.slice none 0 0) (.slice none 0 0) (.pointer none) (.pointer none) (.pointer none) (.pointer none) (.slice none 0 0)) 55 (0,0)))(hBl:w.heap.size≤B)
  (m1:MadeOut w.heap.size B (wC (.slice none 0 0) (.slice none 0 0) (.pointer none) (.pointer none) (.pointer none) (.pointer none) (.slice none 0 0)) (.slice none 0 0) [] na W0 w1 v6 g1) (t1:MadeTwin ea W0 w1 x0 r0) (hb1:Below w1.heap.size w1 W1)
  (m2:MadeOut w.heap.size B (wC (.slice none 0 0) v6 (.pointer none) (.pointer none) (.pointer none) (.pointer none) (.slice none 0 0)) v6 [(slN g1 (na+3),na+3)] nb W1 w2 v6' g2) (t2:MadeTwin eb W1 w2 x1 r1) (hb2:Below w2.heap.size w2 W2) :
  Sta w.heap.size w (put4 W2 B x0 r0 x1 r1) B (.slice none 0 0) v6' x0 r0 x1 r1 (.slice none 0 0) [] [(slN g1 (na+3),na+3),(slN g2 (nb+3),nb+3)] [] 0 (H0 B x0 r0 x1 r1):=by
 have hex:Ex (fun j=>j=B) W2 (put4 W2 B x0 r0 x1 r1) :=
  (((((Ex.of_below (X:=fun j=>j=B) (Below.refl W2.heap.size W2)).set (p:=⟨B,6,none⟩) (.inl rfl) x0).set (p:=⟨B,7,none⟩) (.inl rfl) r0).set (p:=⟨B,8,none⟩) (.inl rfl) x1).set (p:=⟨B,9,none⟩) (.inl rfl) r1).trans (Ex.of_below ((Below.refl _ _).drew.drew))
 have hv:W2.heap[B]? = some (.cells (wC (.slice none 0 0) v6' (.pointer none) (.pointer none) (.pointer none) (.pointer none) (.slice none 0 0)) 55 (0,0)):=(hb2.block B (aGe.1 m2.box).1).trans m2.box
 have hbx:(put4 W2 B x0 r0 x1 r1).heap[B]? = some (.cells (wC (.slice none 0 0) v6' x0 r0 x1 r1 (.slice none 0 0)) 55 (0,0)) :=
  heap_setCell_same _ B 9 _ 55 _ (heap_setCell_same _ B 8 _ 55 _ (heap_setCell_same _ B 7 _ 55 _ (heap_setCell_same W2 B 6 _ 55 x0 hv)))
 have hty:∀(k:Nat) (cs:Array Value) (t:TypeId) (fr:Nat×Nat),W2.heap[k]? = some (.cells cs t fr)→t≠55→(put4 W2 B x0 r0 x1 r1).heap[k]? = some (.cells cs t fr):=fun k cs t fr hk ht=>by
  rw[hex.block k (aGe.1 hk).1 (fun e=>by
   rw[e,hv] at hk
   injection hk with hk
   injection hk with _ hk _
   exact ht hk.symm)]
  exact hk
 have nv:∀k,(Value.slice none 0 0).ownBlock=some k→False:=fun k e=>by simp[Value.ownBlock] at e
 have s0:=hb0.size
 have s1:=m1.ex.size
 have s2:=hb1.size
 have s3:=m2.ex.size
 have s4:=hb2.size
 have s5:=hex.size
 have o1:∀k,v6.ownBlock=some k→W0.heap.size≤k:=fun k e=>(m1.own k e).elim (fun h=>(nv k h).elim) id
 have b1:Below w.heap.size w w1:=⟨m1.ex.os.trans hb0.os,m1.ex.tape.trans hb0.tape,m1.ex.output.trans hb0.output,by omega,fun k hk=>(m1.ex.block k (by omega) (fun hx=>by
  rcases hx with e|e
  ·omega
  ·exact nv k e.symm)).trans (hb0.block k hk)⟩
 have b2:Below w.heap.size w W1:=b1.trans (hb1.mono (by omega))
 have b3:Below w.heap.size w w2:=⟨m2.ex.os.trans b2.os,m2.ex.tape.trans b2.tape,m2.ex.output.trans b2.output,by omega,fun k hk=>(m2.ex.block k (by omega) (fun hx=>by
  rcases hx with e|e
  ·omega
  ·have:=o1 k e.symm;omega)).trans (b2.block k hk)⟩
 have b4:Below w.heap.size w W2:=b3.trans (hb2.mono (by omega))
 have b5:Below w.heap.size w (put4 W2 B x0 r0 x1 r1):=⟨hex.os.trans b4.os,hex.tape.trans b4.tape,hex.output.trans b4.output,by omega,fun k hk=>(hex.block k (by omega) (fun e=>by omega)).trans (b4.block k hk)⟩
 have hB1:W1.heap[B]? = _:=(hb1.block B (aGe.1 m1.box).1).trans m1.box
 have far1:∀(k:Nat) (cs:Array Value) (t:TypeId),(t=71∨t=77)→w1.heap[k]? = some (.cells cs t (0,0))→(put4 W2 B x0 r0 x1 r1).heap[k]? = some (.cells cs t (0,0)):=fun k cs t ht hk=>by
  have hk1:=(hb1.block k (aGe.1 hk).1).trans hk
  have hx:¬(k=B∨some k=v6.ownBlock):=fun hx=>by
   rcases hx with e|e
   ·rw[e,hB1] at hk1
    injection hk1 with hk1
    injection hk1 with _ hk1 _
    rcases ht with ht|ht<;>rw[ht] at hk1<;>exact absurd hk1 (by decide)
   ·obtain⟨_,cur,hc⟩:=ownsRow_type m1.rows.own k e.symm
    rw[hc] at hk
    injection hk with hk
    injection hk with _ hk _
    rcases ht with ht|ht<;>rw[ht] at hk<;>exact absurd hk (by decide)
  have hk2:=(m2.ex.block k (aGe.1 hk1).1 hx).trans hk1
  exact hty k _ _ _ ((hb2.block k (aGe.1 hk2).1).trans hk2) (by rcases ht with ht|ht<;>rw[ht]<;>decide)
 have far2:∀(k:Nat) (cs:Array Value) (t:TypeId),(t=71∨t=77)→w2.heap[k]? = some (.cells cs t (0,0))→(put4 W2 B x0 r0 x1 r1).heap[k]? = some (.cells cs t (0,0)):=fun k cs t ht hk =>
  hty k _ _ _ ((hb2.block k (aGe.1 hk).1).trans hk) (by rcases ht with ht|ht<;>rw[ht]<;>decide)
 have l1:=t1.lt
 have l2:=t2.lt
 have hBW:B<W0.heap.size:=(aGe.1 hB0).1
 exact {
  bel:=b5,low:=rfl,three:=hTb.three,tb:=hTb.keep b5,box:=hbx,l4:=Rows2.nil _ _ _ _ _,
  l6:=(m2.rows.keep hb2).far (fun g cur t ht hg=>by
   rw[hg]
   exact hty g _ _ _ hg (by rcases ht with ht|ht<;>rw[ht]<;>decide)),
  rt:=World.ownsRow_nil _ _ _ _,hB:=.inl rfl,h4:=fun k e=>(nv k e).elim,hr:=fun k e=>(nv k e).elim,
  hH:=fun k hk=>by
   rcases hk with e|e|e|e|e
   ·omega
   ·have:=l1.1 k e;omega
   ·have:=l1.2 k e;omega
   ·have:=l2.1 k e;omega
   ·have:=l2.2 k e;omega,
  t0:=t1.twn (fun T cs _ hc=>far1 T cs _ (.inl rfl) hc) (fun R cs _ hc=>far1 R cs _ (.inr rfl) hc) (fun T R e1 e2=>⟨.inr (.inl e1),.inr (.inr (.inl e2))⟩),
  t1:=t2.twn (fun T cs _ hc=>far2 T cs _ (.inl rfl) hc) (fun R cs _ hc=>far2 R cs _ (.inr rfl) hc) (fun T R e1 e2=>⟨.inr (.inr (.inr (.inl e1))),.inr (.inr (.inr (.inr e2)))⟩),
  apx:=fun T e1 e2=>by have h1:=(l1.1 T e1).2.1;have h2:=(l2.1 T e2).1;omega,
  apr:=fun T R T' _ _ e1 e2=>by have h1:=(l1.2 R e1).2.1;have h2:=(l2.2 R e2).1;omega,
  four:=rfl }
def Ops (w:World)(sa:Option Addr)(ops:List OpD):Prop:=∀i,(h:i<ops.length)→∃g o,sa=some ⟨g,o,none⟩∧w.cell? ⟨g,o+i*6,none⟩=some (.int .i64 ops[i].kind)∧w.cell? ⟨g,o+i*6+1,none⟩=some (.int .i64 ops[i].on)∧w.cell? ⟨g,o+i*6+2,none⟩=some (.string ops[i].s)∧w.cell? ⟨g,o+i*6+3,none⟩=some (.int .i64 ops[i].z)∧w.cell? ⟨g,o+i*6+4,none⟩=some ops[i].pv∧w.cell? ⟨g,o+i*6+5,none⟩=some ops[i].kv
theorem Ops.keep {w w' : World}{sa:Option Addr}{ops:List OpD}(h:Ops w sa ops)(hb:Below w.heap.size w w'):Ops w' sa ops:=fun i hi=>by
 obtain⟨g,o,e,h1,h2,h3,h4,h5,h6⟩:=h i hi
 have hg:∀{j v},w.cell? ⟨g,j,none⟩=some v→w'.cell? ⟨g,j,none⟩=some v:=fun {j v} hc=>(hb.cell (p:=⟨g,j,none⟩) (World.block_lt_of_cell? w _ hc)).trans hc
 exact⟨g,o,e,hg h1,hg h2,hg h3,hg h4,hg h5,hg h6⟩
theorem OpD.Ok.keep {w w' : World}{o:OpD}(h:o.Ok w)(hb:Below w.heap.size w w'):o.Ok w' := ⟨h.prs.keep hb,h.kys.keep hb,h.size,h.z1,h.z2⟩
def opsW (ops:List OpD):Nat:=(ops.map fun o=>o.ps.length+o.ks.length).sum
theorem opsW_take (ops:List OpD)(i:Nat)(hi:i<ops.length):opsW (ops.take (i+1))=opsW (ops.take i)+(ops[i].ps.length+ops[i].ks.length):=by
 unfold opsW
 rw[List.take_add_one,List.getElem?_eq_getElem hi,List.map_append,List.sum_append]
 simp only[Option.toList_some,List.map_cons,List.map_nil,List.sum_cons,List.sum_nil,Nat.add_zero]
theorem opsW_le (ops:List OpD)(i:Nat):opsW (ops.take i)≤opsW ops:=by
 have h:opsW ops=opsW (ops.take i)+opsW (ops.drop i):=by
  unfold opsW
  rw[←List.sum_append,←List.map_append,List.take_append_drop]
 omega
end Go.Proofs.YthdjmldddjljfaaGreatDoor
namespace Go.Proofs.YthdjmldddjljfaaGreatDoor
open Go.RowKit
attribute [local go_sem ↓] Go.wp_at_zero Go.wp_at_succ
def rootO:OpD:=⟨4,0,⟨#[]⟩,0,none,0,[],none,0,[]⟩
theorem rootO_ok (w:World):rootO.Ok w:=⟨fun i hi=>by simp[rootO] at hi,fun i hi=>by simp[rootO] at hi,by decide,by decide,by decide⟩
theorem played_any (aa ba sa:Option Addr)(ac bc sc:Nat)(ea eb:List Pr)(ops:List OpD)(w:World)(hTb:TbZ w)(hA:Prs w aa ea)(hB:Prs w ba eb)(hS:Ops w sa ops)(hok:∀i (h:i<ops.length),(ops[i]).Ok w)(la:ea.length≤2000000)(lb:eb.length≤2000000)(za:∀p∈ea,p.1.size≤100000000∧p.2.size≤100000000)(zb:∀p∈eb,p.1.size≤100000000∧p.2.size≤100000000)(hn:ops.length≤2000000)(hw:opsW ops≤90000000)(most:Int)(hmost:most≤5) :
  Calls Tryz.prog 8 #[.slice aa ea.length ac,.slice ba eb.length bc,.slice sa ops.length sc,.int .i64 most] w fun e w' => e=.returned (.bool true)∧Below w.heap.size w w' := by
 have HTb:=hide hTb
 have HS:=hide hS
 have HOk:=hide hok
 have HW:=hide hw
 have HMost:=hide hmost
 have HM1:=hide (fun W (hW:Below w.heap.size w W) (hbx:W.heap[w.heap.size]? = _)=>made_any w.heap.size w.heap.size (wC (.slice none 0 0) (.slice none 0 0) (.pointer none) (.pointer none) (.pointer none) (.pointer none) (.slice none 0 0)) (.slice none 0 0) [] aa ac ea W hW.size hbx rfl (Rows2.nil _ _ _ _ _) (hA.keep hW) la za (by simp))
 have HM2:=hide (fun W v6 g na (hW:Below w.heap.size w W) (hbx:W.heap[w.heap.size]? = _) (hr6:Rows2 125 22 1 w.heap.size W v6 [(slN g (na+3),na+3)])=>made_any w.heap.size w.heap.size (wC (.slice none 0 0) v6 (.pointer none) (.pointer none) (.pointer none) (.pointer none) (.slice none 0 0)) v6 [(slN g (na+3),na+3)] ba bc eb W hW.size hbx rfl hr6 (hB.keep hW) lb zb (by simp))
 have hB0:(w.alloc (.cells (wC (.slice none 0 0) (.slice none 0 0) (.pointer none) (.pointer none) (.pointer none) (.pointer none) (.slice none 0 0)) 55)).heap[w.heap.size]? = _:=heap_alloc_new w _
 have HB0:=hide hB0
 have HBel0:=hide (below_alloc w (.cells (wC (.slice none 0 0) (.slice none 0 0) (.pointer none) (.pointer none) (.pointer none) (.pointer none) (.slice none 0 0)) 55))
 obtain⟨N,hN⟩:∃N,ops.length=N:=⟨_,rfl⟩
 have HN:=hide hN
 have HHn:Hid (N≤2000000):=by show N≤_;omega
 have hNn:N≤2000000:=by omega
 rw[hN]
 clear hTb hA hB hS hok la lb za zb hB0 hw hn hN hmost
 generalize ea.length=na at *
 generalize eb.length=nb at *
 unfold wC at HBel0 HB0 HM1
 go_enter Tryz.func8,Tryz.ntmps8
 go_wp2_with fail
 generalize (w.alloc (.cells #[.slice none 0 0,.slice none 0 0,.slice none 0 0,.slice none 0 0,.slice none 0 0,.slice none 0 0,.pointer none,.pointer none,.pointer none,.pointer none,.slice none 0 0,.slice none 0 0,.string ⟨#[]⟩,.slice none 0 0,.slice none 0 0] 55))=W0 at *
 refine (HM1.out W0 HBel0.out HB0.out).mono ?_
 rintro e w1 ⟨x0,r0,v6,g1,rfl,m1,t1⟩
 obtain⟨xo0,ro0,rfl,rfl⟩:=t1.form
 have HA1:=hide m1
 have HT1:=hide t1
 clear m1 t1
 have HB1:Hid (Below w.heap.size w w1):=⟨HA1.out.ex.os.trans HBel0.out.os,HA1.out.ex.tape.trans HBel0.out.tape,HA1.out.ex.output.trans HBel0.out.output,Nat.le_trans HBel0.out.size HA1.out.ex.size,fun k hk=>(HA1.out.ex.block k (Nat.lt_of_lt_of_le hk HBel0.out.size) (fun hx=>by
  rcases hx with e|e
  ·omega
  ·simp[Value.ownBlock] at e)).trans (HBel0.out.block k hk)⟩
 have HBb:Hid ((w1.alloc (.cells #[.pointer xo0,.pointer ro0] 51)).heap[w1.heap.size]? = some (.cells #[.pointer xo0,.pointer ro0] 51 (0,0))∧Below w1.heap.size w1 (w1.alloc (.cells #[.pointer xo0,.pointer ro0] 51))):=⟨heap_alloc_new _ _,below_alloc _ _⟩
 go_wp2_with fail
 generalize (w1.alloc (.cells #[.pointer xo0,.pointer ro0] 51))=W1 at *
 have HBW1:Hid (Below w.heap.size w W1):=HB1.out.trans (HBb.out.2.mono HB1.out.size)
 have hbx1:W1.heap[w.heap.size]? = some (.cells (wC (.slice none 0 0) v6 (.pointer none) (.pointer none) (.pointer none) (.pointer none) (.slice none 0 0)) 55 (0,0)):=(HBb.out.2.block _ (aGe.1 HA1.out.box).1).trans HA1.out.box
 have HX1:=hide hbx1
 clear hbx1
 refine (HM2.out W1 v6 g1 na HBW1.out HX1.out (HA1.out.rows.keep HBb.out.2)).mono ?_
 rintro e w2 ⟨x1,r1,v6', g2,rfl,m2,t2⟩
 obtain⟨xo1,ro1,rfl,rfl⟩:=t2.form
 have HA2:=hide m2
 have HT2:=hide t2
 clear m2 t2
 have HBc:Hid ((w2.alloc (.cells #[.pointer xo1,.pointer ro1] 51)).heap[w2.heap.size]? = some (.cells #[.pointer xo1,.pointer ro1] 51 (0,0))∧Below w2.heap.size w2 (w2.alloc (.cells #[.pointer xo1,.pointer ro1] 51))):=⟨heap_alloc_new _ _,below_alloc _ _⟩
 go_wp2_with fail
 have hBv:(w2.alloc (.cells #[.pointer xo1,.pointer ro1] 51)).heap[w.heap.size]? = some (.cells (wC (.slice none 0 0) v6' (.pointer none) (.pointer none) (.pointer none) (.pointer none) (.slice none 0 0)) 55 (0,0)):=(HBc.out.2.block _ (aGe.1 HA2.out.box).1).trans HA2.out.box
 have hw1B:w1.heap.size≠w.heap.size:=fun e=>by
  have h1:=HBb.out.1
  rw[e,HX1.out] at h1
  injection h1 with h1
  injection h1 with _ h1 _
  exact absurd h1 (by decide)
 have x10:(w2.alloc (.cells #[.pointer xo1,.pointer ro1] 51)).heap[w1.heap.size]? = some (.cells #[.pointer xo0,.pointer ro0] 51 (0,0)):=by
  have h1:=HBb.out.1
  have h2:=(HA2.out.ex.block _ (aGe.1 h1).1 (fun hx=>by
   rcases hx with e|e
   ·exact hw1B e
   ·have:=(HA1.out.rows.own.lt _ e.symm).2
    omega)).trans h1
  exact (HBc.out.2.block _ (aGe.1 h2).1).trans h2
 have hw2B:w2.heap.size≠w.heap.size:=fun e=>by
  have h1:=HBc.out.1
  rw[e,hBv] at h1
  injection h1 with h1
  injection h1 with _ h1 _
  exact absurd h1 (by decide)
 have hst:=sta_start HTb.out HBel0.out HB0.out (Nat.le_refl _) HA1.out HT1.out HBb.out.2 HA2.out HT2.out HBc.out.2
 have HSt:=hide hst
 clear hst
 have x12:=HBc.out.1
 generalize (w2.alloc (.cells #[.pointer xo1,.pointer ro1] 51))=W2 at *
 have c100:W2.cell? ⟨w1.heap.size,0,none⟩=some (.pointer xo0):=cell_of_row _ _ 0 _ _ (0,0) x10
 have c101:W2.cell? ⟨w1.heap.size,1,none⟩=some (.pointer ro0):=cell_of_row _ _ 1 _ _ (0,0) x10
 have c120:W2.cell? ⟨w2.heap.size,0,none⟩=some (.pointer xo1):=cell_of_row _ _ 0 _ _ (0,0) x12
 have c121:W2.cell? ⟨w2.heap.size,1,none⟩=some (.pointer ro1):=cell_of_row _ _ 1 _ _ (0,0) x12
 have cB6:W2.cell? ⟨w.heap.size,6,none⟩=some (.pointer none):=cell_of_row _ _ 6 _ _ (0,0) hBv
 have cB7:W2.cell? ⟨w.heap.size,7,none⟩=some (.pointer none):=cell_of_row _ _ 7 _ _ (0,0) hBv
 have cB8:W2.cell? ⟨w.heap.size,8,none⟩=some (.pointer none):=cell_of_row _ _ 8 _ _ (0,0) hBv
 have cB9:W2.cell? ⟨w.heap.size,9,none⟩=some (.pointer none):=cell_of_row _ _ 9 _ _ (0,0) hBv
 have fB:∀j,W2.frozen? ⟨w.heap.size,j,none⟩=false:=fun j=>frozen_of_row _ _ j _ _ hBv
 have n1:¬w2.heap.size=w.heap.size:=hw2B
 have n2:¬w.heap.size=w2.heap.size:=fun e=>hw2B e.symm
 have n3:¬w1.heap.size=w.heap.size:=hw1B
 have n4:¬w.heap.size=w1.heap.size:=fun e=>hw1B e.symm
 clear hBv hw1B hw2B x10 x12 HX1
 obtain⟨b10,hb10⟩:∃b,w1.heap.size=b:=⟨_,rfl⟩
 obtain⟨b12,hb12⟩:∃b,w2.heap.size=b:=⟨_,rfl⟩
 rw[hb10] at c100 c101 n3 n4 ⊢
 rw[hb12] at c120 c121 n1 n2 ⊢
 have Hb:=hide (And.intro hb10 hb12)
 clear hb10 hb12
 go_region
 go_wp2_with fail
 go_region
 go_wp2_with fail
 clear c100 c101 c120 c121 cB6 cB7 cB8 cB9 fB n1 n2 n3 n4 HA1 HA2 HB1 HBW1 HBb HBc HB0 HBel0 HM1 HM2 HT1 HT2
 unfold put4 at HSt
 generalize ((((W2.setCell ⟨w.heap.size,6,none⟩ (.pointer xo0)).setCell ⟨w.heap.size,7,none⟩ (.pointer ro0)).setCell ⟨w.heap.size,8,none⟩ (.pointer xo1)).setCell ⟨w.heap.size,9,none⟩ (.pointer ro1)).drew.drew=W3 at *
 have HSt2:Hid (After w.heap.size w w.heap.size v6' (.pointer xo0) (.pointer ro0) (.pointer xo1) (.pointer ro1) [(slN g1 (na+3),na+3),(slN g2 (nb+3),nb+3)] 0 0 0 W3):=⟨_,_,_,_,_,_,HSt.out,by simp,by simp,by omega⟩
 clear HSt
 obtain⟨r6,hr6⟩:∃r6,[(slN g1 (na+3),na+3),(slN g2 (nb+3),nb+3)]=r6:=⟨_,rfl⟩
 have HR6:Hid (r6.length≤10):=by show r6.length≤10;rw[←hr6];simp
 rw[hr6] at HSt2
 clear hr6
 go_loopw [14] (fun iv wr=>∃i:Nat,i≤N∧iv=.int .i64 (i:Int)∧After w.heap.size w w.heap.size v6' (.pointer xo0) (.pointer ro0) (.pointer xo1) (.pointer ro1) r6 (4 * i) i (opsW (ops.take i)) wr) (fun iv _=>N - (intOf iv).toNat)
 case atStart=>exact⟨0,by omega,rfl,HSt2.out⟩
 case round =>
  obtain⟨i,hi,rfl,hs⟩:=hrel
  have HSa:=hide hs
  clear hs HSt2
  have j0:(0:Int)≤(i:Int):=by omega
  by_cases hil:i<N
  ·have j1:(i:Int)<(N:Int):=by omega
   obtain⟨v4,rts,r4,rl,m,H,hsta,q4,qr,qm⟩:=HSa.out
   have hil' : i<ops.length:=by rw[HN.out];exact hil
   obtain⟨g,off,hsa,d0,d1,d2,d3,d4,d5⟩:=(HS.out.keep hsta.bel0) i hil'
   have hle1:=opsW_take ops i hil'
   have hle2:=opsW_le ops (i+1)
   have hstep:=fun (hk:(ops[i]).kind≤5)=>step_any hsta ops[i] (HOk.out i hil') hk (by have:=HW.out;omega) (by omega) (by omega)
   have hgo:∀w', After w.heap.size w w.heap.size v6' (.pointer xo0) (.pointer ro0) (.pointer xo1) (.pointer ro1) r6 (r4.length+4) (rl.length+1) (m+(ops[i]).ps.length+(ops[i]).ks.length) w' → After w.heap.size w w.heap.size v6' (.pointer xo0) (.pointer ro0) (.pointer xo1) (.pointer ro1) r6 (4 * (i+1)) (i+1) (opsW (ops.take (i+1))) w' := fun w' h=>by
    obtain⟨a1,a2,a3,a4,a5,a6,b1,b2,b3,b4⟩:=h
    exact⟨a1,a2,a3,a4,a5,a6,b1,by omega,by omega,by omega⟩
   have hskip:After w.heap.size w w.heap.size v6' (.pointer xo0) (.pointer ro0) (.pointer xo1) (.pointer ro1) r6 (4 * (i+1)) (i+1) (opsW (ops.take (i+1))) wr:=⟨_,_,_,_,_,_,hsta,by omega,by omega,by omega⟩
   subst hsa
   unfold OpD.val at hstep
   unfold OpD.pv at hstep d4
   unfold OpD.kv at hstep d5
   obtain⟨o,ho⟩:∃o,ops[i]=o:=⟨_,rfl⟩
   rw[ho] at d0 d1 d2 d3 d4 d5 hgo hstep
   obtain⟨kind,on,s,z,pa,pc,ps,ka,kc,ks⟩:=o
   dsimp only at d0 d1 d2 d3 d4 d5 hgo hstep
   generalize ps.length=np at *
   generalize ks.length=nk at *
   have HGo:=hide hgo
   have HSkip:=hide hskip
   clear hgo hskip hsta q4 qr qm hle1 hle2 ho HSa
   by_cases hk:kind≤most
   ·have kk:¬(most<kind):=by omega
    have HStep:=hide (hstep (by have:=HMost.out;omega))
    unfold opV at HStep
    clear hstep
    go_wp2_with fail
    refine HStep.out.mono ?_
    rintro e w4 ⟨rfl,ha4⟩
    have HA4:=hide (HGo.out w4 ha4)
    clear ha4
    obtain⟨v4b,rtsb,r4b,rlb,mb,Hb,hsb,qb4,qbr,qbm⟩:=HA4.out
    have HSb:=hide hsb
    have HQb:=hide (And.intro qb4 (And.intro qbr qbm))
    clear hsb qb4 qbr qbm
    go_wp2_with fail
    refine (HSb.out.looks (by have:=HQb.out;have:=HHn.out;omega) (by have:=HR6.out;omega)).mono ?_
    rintro e w5 ⟨rfl,hb5⟩
    have HB5:=hide hb5
    clear hb5
    go_wp2
    go_roundw
    case rel=>exact⟨i+1,by omega,rfl,_,_,_,_,_,_,HSb.out.keep HB5.out,HQb.out.1,HQb.out.2.1,HQb.out.2.2⟩
    case measure=>simp[intOf];omega
   ·have kk:most<kind:=by omega
    clear hstep
    go_wp2
    go_roundw
    case rel=>exact⟨i+1,by omega,rfl,HSkip.out⟩
    case measure=>simp[intOf];omega
  ·obtain rfl:i=N:=by omega
   have j2:¬((i:Int)<(i:Int)):=by omega
   rename World=>A
   have HSx:Hid (After w.heap.size w w.heap.size v6' (.pointer xo0) (.pointer ro0) (.pointer xo1) (.pointer ro1) r6 (4 * i) i 90000000 A):=by
    obtain⟨a1,a2,a3,a4,a5,a6,b1,b2,b3,b4⟩:=HSa.out
    have:=HW.out
    have:=opsW_le ops i
    exact⟨a1,a2,a3,a4,a5,a6,b1,b2,b3,by omega⟩
   clear HSa HS HOk HW HN
   go_wp2_with fail
   go_loopw [17] (fun iv wr=>∃z:Nat,z≤2∧iv=.int .i64 (z:Int)∧After w.heap.size w w.heap.size v6' (.pointer xo0) (.pointer ro0) (.pointer xo1) (.pointer ro1) r6 (4 * i+4 * z) (i+z) 90000000 wr) (fun iv _=>2 - (intOf iv).toNat)
   case atStart=>exact⟨0,by omega,rfl,HSx.out⟩
   case round =>
    obtain⟨z,hz,rfl,hs⟩:=hrel
    obtain⟨v4,rts,r4,rl,m,H,hsta,q4,qr,qm⟩:=hs
    have hB6:wr.cell? ⟨w.heap.size,6,none⟩=some (.pointer xo0):=cell_of_row _ _ 6 _ _ (0,0) hsta.box
    have hB7:wr.cell? ⟨w.heap.size,7,none⟩=some (.pointer ro0):=cell_of_row _ _ 7 _ _ (0,0) hsta.box
    have hB8:wr.cell? ⟨w.heap.size,8,none⟩=some (.pointer xo1):=cell_of_row _ _ 8 _ _ (0,0) hsta.box
    have hB9:wr.cell? ⟨w.heap.size,9,none⟩=some (.pointer ro1):=cell_of_row _ _ 9 _ _ (0,0) hsta.box
    have HBel:Hid (Below w.heap.size w wr):=hsta.bel0
    obtain rfl|rfl|rfl:z=0∨z=1∨z=2:=by omega
    ·have HNext:Hid (∀w', After w.heap.size w w.heap.size v6' (.pointer xo0) (.pointer ro0) (.pointer xo1) (.pointer ro1) r6 (r4.length+4) (rl.length+1) (m+rootO.ps.length+rootO.ks.length) w' → After w.heap.size w w.heap.size v6' (.pointer xo0) (.pointer ro0) (.pointer xo1) (.pointer ro1) r6 (4 * i+4 * 1) (i+1) 90000000 w'):=fun w' h=>by
      obtain⟨a1,a2,a3,a4,a5,a6,b1,b2,b3,b4⟩:=h
      exact⟨a1,a2,a3,a4,a5,a6,b1,by omega,by omega,by simp[rootO] at b4;omega⟩
     have HSkip:Hid (After w.heap.size w w.heap.size v6' (.pointer xo0) (.pointer ro0) (.pointer xo1) (.pointer ro1) r6 (4 * i+4 * 1) (i+1) 90000000 wr):=⟨_,_,_,_,_,_,hsta,by omega,by omega,by omega⟩
     rcases hsta.t0 with⟨hx,ro,hro⟩|⟨ok,T,R,M,S,lv,n,hx,hro,hD,hlen,hT,hR,hok⟩
     ·obtain rfl:xo0=none:=by injection hx
      clear hsta q4 qr qm hx hro
      go_wp2
      go_roundw
      case rel=>exact⟨1,by omega,rfl,HSkip.out⟩
      case measure=>simp[intOf]
     ·have hroot:=act_root hsta ⟨hD,hlen,hT,hR,hok,.inl ⟨hx,hro⟩⟩ rootO (rootO_ok _) (by simp[rootO];omega) (by have:=HHn.out;omega) (by have:=HHn.out;omega) wr (Below.refl _ _)
      obtain rfl:xo0=some ⟨T,0,none⟩:=by injection hx
      obtain rfl:ro0=some ⟨R,0,none⟩:=by injection hro
      have HRoot:=hide hroot
      clear hroot hsta q4 qr qm hx hro hD hlen hT hR hok
      unfold opV OpD.pv OpD.kv rootO at HRoot
      dsimp only[List.length_nil] at HRoot
      go_wp2_with fail
      refine HRoot.out.mono ?_
      rintro e w5 ⟨rfl,ha5⟩
      have HA5:=hide (HNext.out w5 ha5)
      clear ha5
      go_wp2
      go_roundw
      case rel=>exact⟨1,by omega,rfl,HA5.out⟩
      case measure=>simp[intOf]
    ·have HNext:Hid (∀w', After w.heap.size w w.heap.size v6' (.pointer xo0) (.pointer ro0) (.pointer xo1) (.pointer ro1) r6 (r4.length+4) (rl.length+1) (m+rootO.ps.length+rootO.ks.length) w' → After w.heap.size w w.heap.size v6' (.pointer xo0) (.pointer ro0) (.pointer xo1) (.pointer ro1) r6 (4 * i+4 * 2) (i+2) 90000000 w'):=fun w' h=>by
      obtain⟨a1,a2,a3,a4,a5,a6,b1,b2,b3,b4⟩:=h
      exact⟨a1,a2,a3,a4,a5,a6,b1,by omega,by omega,by simp[rootO] at b4;omega⟩
     have HSkip:Hid (After w.heap.size w w.heap.size v6' (.pointer xo0) (.pointer ro0) (.pointer xo1) (.pointer ro1) r6 (4 * i+4 * 2) (i+2) 90000000 wr):=⟨_,_,_,_,_,_,hsta,by omega,by omega,by omega⟩
     rcases hsta.t1 with⟨hx,ro,hro⟩|⟨ok,T,R,M,S,lv,n,hx,hro,hD,hlen,hT,hR,hok⟩
     ·obtain rfl:xo1=none:=by injection hx
      clear hsta q4 qr qm hx hro
      go_wp2
      go_roundw
      case rel=>exact⟨2,by omega,rfl,HSkip.out⟩
      case measure=>simp[intOf]
     ·have hroot:=act_root hsta ⟨hD,hlen,hT,hR,hok,.inr ⟨hx,hro⟩⟩ rootO (rootO_ok _) (by simp[rootO];omega) (by have:=HHn.out;omega) (by have:=HHn.out;omega) wr (Below.refl _ _)
      obtain rfl:xo1=some ⟨T,0,none⟩:=by injection hx
      obtain rfl:ro1=some ⟨R,0,none⟩:=by injection hro
      have HRoot:=hide hroot
      clear hroot hsta q4 qr qm hx hro hD hlen hT hR hok
      unfold opV OpD.pv OpD.kv rootO at HRoot
      dsimp only[List.length_nil] at HRoot
      go_wp2_with fail
      refine HRoot.out.mono ?_
      rintro e w5 ⟨rfl,ha5⟩
      have HA5:=hide (HNext.out w5 ha5)
      clear ha5
      go_wp2
      go_roundw
      case rel=>exact⟨2,by omega,rfl,HA5.out⟩
      case measure=>simp[intOf]
    ·clear hsta q4 qr qm
     go_wp2
     go_ret
     exact⟨rfl,HBel.out⟩
theorem Tabs.keepC {w w' : World}(h:Tabs w)(h2:1 < w.heap.size)(h1:0 < w.heap.size)(hb:Below w.heap.size w w'):Tabs w' :=
 ⟨fun j hj=>(hb.cell (p:=⟨0,j,none⟩) h1).trans (h.rcs j hj),fun j hj=>(hb.cell (p:=⟨1,j,none⟩) h2).trans (h.tus j hj)⟩
def knC (P:Nat):Array Value:=#[.int .i64 1,.int .i64 0,.string ⟨#[]⟩,.int .i64 0,.slice (some ⟨P,0,none⟩) 1 1,.slice none 0 0,.int .i64 3,.int .i64 0,.string ⟨#[97]⟩,.int .i64 0,.slice none 0 0,.slice none 0 0]
def knO (P:Nat):List OpD:=[⟨1,0,⟨#[]⟩,0,some ⟨P,0,none⟩,1,[(⟨#[97]⟩,⟨#[98]⟩)],none,0,[]⟩,⟨3,0,⟨#[97]⟩,0,none,0,[],none,0,[]⟩]
theorem knO_ops {w:World}{P Q:Nat}(h:w.heap[Q]? = some (.cells (knC P) 40 (0,0))):Ops w (some ⟨Q,0,none⟩) (knO P):=fun i hi=>by
 have hi' : i<2:=hi
 obtain rfl|rfl:i=0∨i=1:=by omega
 ·exact⟨Q,0,rfl,cell_of_row _ _ 0 _ _ (0,0) h,cell_of_row _ _ 1 _ _ (0,0) h,cell_of_row _ _ 2 _ _ (0,0) h,cell_of_row _ _ 3 _ _ (0,0) h,cell_of_row _ _ 4 _ _ (0,0) h,cell_of_row _ _ 5 _ _ (0,0) h⟩
 ·exact⟨Q,0,rfl,cell_of_row _ _ 6 _ _ (0,0) h,cell_of_row _ _ 7 _ _ (0,0) h,cell_of_row _ _ 8 _ _ (0,0) h,cell_of_row _ _ 9 _ _ (0,0) h,cell_of_row _ _ 10 _ _ (0,0) h,cell_of_row _ _ 11 _ _ (0,0) h⟩
theorem knO_ok {w:World}{P:Nat}(h:w.heap[P]? = some (.cells #[.string ⟨#[97]⟩,.string ⟨#[98]⟩] 33 (0,0))):∀i (hi:i<(knO P).length),((knO P)[i]).Ok w:=fun i hi=>by
 have hi' : i<2:=hi
 obtain rfl|rfl:i=0∨i=1:=by omega
 ·refine⟨fun j hj=>?_,fun j hj=>by simp[knO] at hj,by simp[knO];decide,by simp[knO],by simp[knO]⟩
  obtain rfl:j=0:=by simp[knO] at hj;exact hj
  exact⟨P,0,rfl,cell_of_row _ _ 0 _ _ (0,0) h,cell_of_row _ _ 1 _ _ (0,0) h⟩
 ·exact⟨fun j hj=>by simp[knO] at hj,fun j hj=>by simp[knO] at hj,by simp[knO];decide,by simp[knO],by simp[knO]⟩
theorem known_any2 (w:World)(hT:Tabs w)(h2:2≤w.heap.size) :
  Calls Tryz.prog 7 #[] w fun e w' => e=.returned (.bool true)∧Below w.heap.size w w' ∧ w.heap.size+2≤w'.heap.size:=by
 obtain⟨x0,x1,hb0⟩:=two_boxes w #[.string ⟨#[97]⟩,.string ⟨#[98]⟩] (knC w.heap.size) 33 40
 have hs:((w.alloc (.cells #[.string ⟨#[97]⟩,.string ⟨#[98]⟩] 33)).alloc (.cells (knC w.heap.size) 40)).heap.size=w.heap.size+2:=by simp
 have hTb:TbZ ((w.alloc (.cells #[.string ⟨#[97]⟩,.string ⟨#[98]⟩] 33)).alloc (.cells (knC w.heap.size) 40)):=⟨hT.keepC (by omega) (by omega) hb0,by omega⟩
 have hp:=played_any none none (some ⟨w.heap.size+1,0,none⟩) 0 0 2 [] [] (knO w.heap.size) _ hTb (fun i hi=>by simp at hi) (fun i hi=>by simp at hi) (knO_ops x1) (knO_ok x0) (by simp) (by simp) (fun p hp=>by cases hp) (fun p hp=>by cases hp) (by simp[knO]) (by simp[knO,opsW]) 3 (by omega)
 have HP:Hid (Calls Tryz.prog 8 #[.slice none 0 0,.slice none 0 0,.slice (some ⟨w.heap.size+1,0,none⟩) 2 2,.int .i64 3] ((w.alloc (.cells #[.string ⟨#[97]⟩,.string ⟨#[98]⟩] 33)).alloc (.cells (knC w.heap.size) 40)) fun e w' => e=.returned (.bool true)∧Below ((w.alloc (.cells #[.string ⟨#[97]⟩,.string ⟨#[98]⟩] 33)).alloc (.cells (knC w.heap.size) 40)).heap.size ((w.alloc (.cells #[.string ⟨#[97]⟩,.string ⟨#[98]⟩] 33)).alloc (.cells (knC w.heap.size) 40)) w'):=hp
 have HB0:=hide hb0
 have HS:=hide hs
 unfold knC at HP HB0 HS
 clear x0 x1 hb0 hTb hs hT hp
 go_enter Tryz.func7,Tryz.ntmps7
 go_wp2_with fail
 refine HP.out.mono ?_
 rintro e w1 ⟨rfl,hb1⟩
 have HB1:=hide hb1
 clear hb1
 go_wp2
 go_ret
 exact⟨rfl,HB0.out.trans (HB1.out.mono HB0.out.size),by rw[←HS.out];exact HB1.out.size⟩
theorem maps_walk (aa ba sa:Option Addr)(ac bc sc:Nat)(ea eb:List Pr)(ops:List OpD)(w:World)(hT:Tabs w)(h2:2≤w.heap.size)(hA:Prs w aa ea)(hB:Prs w ba eb)(hS:Ops w sa ops)(hok:∀i (h:i<ops.length),(ops[i]).Ok w)(la:ea.length≤2000000)(lb:eb.length≤2000000)(za:∀p∈ea,p.1.size≤100000000∧p.2.size≤100000000)(zb:∀p∈eb,p.1.size≤100000000∧p.2.size≤100000000)(hn:ops.length≤2000000)(hw:opsW ops≤90000000) :
  Calls Tryz.prog 3 #[.slice aa ea.length ac,.slice ba eb.length bc,.slice sa ops.length sc] w fun e w' => e=.returned (.bool true)∧Below w.heap.size w w' := by
 have HK:=hide (known_any2 w hT h2)
 have HP:=hide (fun W (hW:Below w.heap.size w W) (hs:w.heap.size+2≤W.heap.size)=>played_any aa ba sa ac bc sc ea eb ops W ⟨hT.keepC (by omega) (by omega) hW,by omega⟩ (hA.keep hW) (hB.keep hW) (hS.keep hW) (fun i hi=>(hok i hi).keep hW) la lb za zb hn hw 5 (by omega))
 clear hT h2 hA hB hS hok la lb za zb hn hw
 generalize ea.length=na at *
 generalize eb.length=nb at *
 generalize ops.length=no at *
 go_enter Tryz.func3,Tryz.ntmps3
 go_wp2_with fail
 refine HK.out.mono ?_
 rintro e w1 ⟨rfl,hb1,hs1⟩
 have HB1:=hide (And.intro hb1 hs1)
 clear hb1 hs1
 go_wp2_with fail
 refine (HP.out w1 HB1.out.1 HB1.out.2).mono ?_
 rintro e w2 ⟨rfl,hb2⟩
 have HB2:Hid (Below w.heap.size w w2):=HB1.out.1.trans (hb2.mono HB1.out.1.size)
 clear hb2
 go_wp2
 go_ret
 exact⟨rfl,HB2.out⟩
end Go.Proofs.YthdjmldddjljfaaGreatDoor
