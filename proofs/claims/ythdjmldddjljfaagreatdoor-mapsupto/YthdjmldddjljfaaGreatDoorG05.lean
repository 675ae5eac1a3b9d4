/-
  OUR OWN.
-/
import Derived.Test.YthdjmldddjljfaaGreatDoorG02
import Derived.Maps.AppendAt
import Derived.Laws.OwnMore
set_option maxHeartbeats 8000000
set_option maxRecDepth 20000
namespace Go.Proofs.YthdjmldddjljfaaGreatDoor
open Go.RowKit
section
variable {P:Program} (w:World)
theorem run_append_keeps (base:Nat)(t ty e:TypeId)(i:TypeInfo)(z:Value)(size bytes:Nat)(ht:P.underlying t=some (.slice e))(hi:P.info? e=some i)(hz:i.zero=some z)
  (hsize:i.size=size) (hby:i.bytes=bytes) (hzs:z.cells.size=size) (hsz:0 < size)
  (v:Value) (n:Nat) (xs:List Value) (hown:w.ownsRow base e size v n xs)
  (ad:Addr) (m c:Nat) (news:List Value) (hl:news.length=m*size) (hnews:∀j u,news[j]? = some u→w.cell? (ad.add j)=some u) (h1:∀u∈news,u.oneCell' = true)
  (hm:0 < m) (h63:n+m≤maxLen) (hbytes:(n+m)*bytes≤140737488355328) (hbase:base≤w.heap.size) :
  ∃g cap w', (Builtin.append_ #[t,t] ty #[v,.slice (some ad) m c]).run P w=.ok (.slice (some ⟨g,0,none⟩) (n+m) cap) w' ∧
   w'.ownsRow base e size (.slice (some ⟨g,0,none⟩) (n+m) cap) (n+m) (xs++news)∧w'.ownsRow base e size v n xs∧w.grownBy w' v.ownBlock∧(v.ownBlock=some g∨g=w.heap.size)∧g<w'.heap.size:=by
 obtain⟨v', w', hr,h2,h3,_,h5⟩:=run_append_own_at (P:=P) w base t ty e i z size bytes ht hi hz hsize hby hzs hsz v n xs hown ad m c news hl hnews h1 h63 hbytes hbase
 obtain⟨g,cap,rfl,_,hlt⟩:=h2.form (by omega)
 refine⟨g,cap,w', hr,h2,?_,h3,?_,hlt⟩
 ·rcases hown.2 with⟨rfl,rfl⟩|⟨g0,cap0,cur,rfl,hb0,hg0,hn0,hc0,hs0,ht0⟩
  ·exact⟨hown.1,.inl ⟨rfl,rfl⟩⟩
  ·subst hsize
   subst hby
   by_cases hroom:n+m≤cap0
   ·have hr2:=run_append_room (P:=P) w t ty e i ht hi g0 n cap0 cur hg0 ad m c news hl hnews h1 hroom (by rw[hl,hs0,←Nat.add_mul];exact Nat.mul_le_mul_right _ hroom)
    rw[hr2] at hr
    injection hr with _ hw
    subst hw
    refine⟨hown.1,.inr ⟨g0,cap0,_,rfl,hb0,setRow_heap w g0 cur _ e _ hg0,hn0,hc0,?_,?_⟩⟩
    ·have hle:(n+m)*i.size≤cap0 * i.size:=Nat.mul_le_mul_right _ hroom
     rw[Nat.add_mul] at hle
     simp only[List.size_toArray,List.length_append,List.length_take,List.length_drop,Array.length_toList]
     omega
    ·simp only[List.append_assoc]
     rw[ht0]
     have:xs.length=n*i.size:=hown.1
     rw[←this]
     exact List.take_left
   ·have hr2:=run_append_grow (P:=P) w t ty e i z ht hi hz ⟨g0,0,none⟩ n cap0 xs hown.1 (hown.cells (g:=g0) rfl) ad m c news hl hnews (by omega) (by unfold maxLen at h63;omega) (growslice_fits (by omega) hbytes)
    rw[hr2] at hr
    injection hr with _ hw
    subst hw
    exact (World.ownsRow.alloc (w:=w.drew) hown _)
 ·rcases h5 with h5|h5
  ·exact .inl (by rw[←h5];rfl)
  ·right;simpa[Value.ownBlock] using h5
theorem wpList_append_run {w:World}{ops:Array Oper}{rest:List Oper}{o:Oper}{a:Act}{Q:Exit→Act→World→Prop}(hgd:o.guard=none)(s x:Operand)(t:TypeId)
  (ho:o.op=.call { callee:=.builtin .append,args:=#[s,x],argTypes:=#[t,t] }) (v sv v' : Value) (w' : World) (hs:a.eval s=v) (hx:a.eval x=sv)
  (hr:(Builtin.append_ #[t,t] o.type #[v,sv]).run P w=.ok v' w') (h:wpList P ops Q rest (a.put o.dst v') w'):wpList P ops Q (o :: rest) a w:=by
 refine wpList_plain hgd fun K hK=>?_
 unfold Oper.wp
 simp only[execOp,ho,resolve,invoke,builtin,Sem.run_bind,Sem.run_pure,Result.andThen_ok,List.map_toArray,List.map_cons,List.map_nil,hs,hx,hr]
 exact hK _ _ h
theorem wpList_append_keeps {ops:Array Oper}{rest:List Oper}{o:Oper}{a:Act}{Q:Exit→Act→World→Prop}(hgd:o.guard=none)(s x:Operand)(t:TypeId)
  (ho:o.op=.call { callee:=.builtin .append,args:=#[s,x],argTypes:=#[t,t] })
  (base:Nat) (e:TypeId) (i:TypeInfo) (z:Value) (size bytes:Nat) (ht:P.underlying t=some (.slice e)) (hi:P.info? e=some i) (hz:i.zero=some z)
  (hsize:i.size=size) (hby:i.bytes=bytes) (hzs:z.cells.size=size) (hsz:0 < size)
  (v:Value) (n:Nat) (xs:List Value) (hs:a.eval s=v) (hown:w.ownsRow base e size v n xs)
  (ad:Addr) (m c:Nat) (news:List Value) (hx:a.eval x=.slice (some ad) m c) (hl:news.length=m*size) (hnews:∀j u,news[j]? = some u→w.cell? (ad.add j)=some u) (h1:∀u∈news,u.oneCell' = true)
  (hm:0 < m) (h63:n+m≤maxLen) (hbytes:(n+m)*bytes≤140737488355328) (hbase:base≤w.heap.size)
  (h:∀g cap w', w'.ownsRow base e size (.slice (some ⟨g,0,none⟩) (n+m) cap) (n+m) (xs++news)→w'.ownsRow base e size v n xs→w.grownBy w' v.ownBlock→(v.ownBlock=some g∨g=w.heap.size)→g<w'.heap.size→wpList P ops Q rest (a.put o.dst (.slice (some ⟨g,0,none⟩) (n+m) cap)) w'):wpList P ops Q (o :: rest) a w:=by
 obtain⟨g,cap,w', hr,h2,h3,h4,h5,h6⟩:=run_append_keeps (P:=P) w base t o.type e i z size bytes ht hi hz hsize hby hzs hsz v n xs hown ad m c news hl hnews h1 hm h63 hbytes hbase
 exact wpList_append_run hgd s x t ho v _ _ w' hs hx hr (h g cap w' h2 h3 h4 h5 h6)
end
theorem own_far {w w' : World}{base e size n:Nat}{v:Value}{xs:List Value}(h:w.ownsRow base e size v n xs)(hs:∀g,v.ownBlock=some g→g<w.heap.size→w'.heap[g]? = w.heap[g]?):w'.ownsRow base e size v n xs:=by
 refine⟨h.1,?_⟩
 rcases h.2 with h2|⟨g,cap,cur,rfl,hb,hg,r⟩
 ·exact .inl h2
 ·exact .inr ⟨g,cap,cur,rfl,hb,by rw[hs g rfl (aGe.1 hg).1];exact hg,r⟩
theorem news_ofT (w:World)(t:TypeId)(l:List Value):∀j u,l[j]? = some u→(w.alloc (.cells l.toArray t)).cell? ((⟨w.heap.size,0,none⟩:Addr).add j)=some u :=
 World.news_of_block (cs:=l.toArray) (t:=t) (fr:=(0,0)) (heap_alloc_new w _)
theorem own_base {w:World}{base base' e size n:Nat}{v:Value}{xs:List Value}(h:w.ownsRow base e size v n xs)(hb:base' ≤ base):w.ownsRow base' e size v n xs:=by
 refine⟨h.1,?_⟩
 rcases h.2 with h|⟨g,c,cur,h1,h2,h3⟩
 ·exact .inl h
 ·exact .inr ⟨g,c,cur,h1,Nat.le_trans hb h2,h3⟩
theorem set_same {w:World}{B j:Nat}{cs:Array Value}{t:TypeId}{fr:Nat×Nat}(h:w.heap[B]? = some (.cells cs t fr))(u:Value):(w.setCell ⟨B,j,none⟩ u).heap[B]? = some (.cells (cs.setIfInBounds j u) t fr):=by
 have hB:B<w.heap.size:=by
  rcases Nat.lt_or_ge B w.heap.size with h1|h1
  ·exact h1
  ·rw[Array.getElem?_eq_none h1] at h;cases h
 unfold World.setCell
 simp only[Array.getElem?_modify]
 simp[h]
end Go.Proofs.YthdjmldddjljfaaGreatDoor
