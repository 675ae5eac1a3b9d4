/-
  OUR OWN.
-/
import Derived.Test.YthdjmldddjljfaaGreatDoorH02
import Derived.Maps.AppendAt
import Derived.Laws.OwnMore
set_option maxHeartbeats 8000000
set_option maxRecDepth 20000
namespace Go.Proofs.YthdjmldddjljfaaGreatDoor
open Go.RowKit
section
variable {P:Program} (w:World)
theorem wpList_append_run {w:World}{ops:Array Oper}{rest:List Oper}{o:Oper}{a:Act}{Q:Exit→Act→World→Prop}(hgd:o.guard=none)(s x:Operand)(t:TypeId)
  (ho:o.op=.call { callee:=.builtin .append,args:=#[s,x],argTypes:=#[t,t] }) (v sv v' : Value) (w' : World) (hs:a.eval s=v) (hx:a.eval x=sv)
  (hr:(Builtin.append_ #[t,t] o.type #[v,sv]).run P w=.ok v' w') (h:wpList P ops Q rest (a.put o.dst v') w'):wpList P ops Q (o :: rest) a w:=by
 refine wpList_plain hgd fun K hK=>?_
 unfold Oper.wp
 simp only[execOp,ho,resolve,invoke,builtin,Sem.run_bind,Sem.run_pure,Result.andThen_ok,List.map_toArray,List.map_cons,List.map_nil,hs,hx,hr]
 exact hK _ _ h
end
theorem own_far {w w' : World}{base e size n:Nat}{v:Value}{xs:List Value}(h:w.ownsRow base e size v n xs)(hs:∀g,v.ownBlock=some g→g<w.heap.size→w'.heap[g]? = w.heap[g]?):w'.ownsRow base e size v n xs:=by
 refine⟨h.1,?_⟩
 rcases h.2 with h2|⟨g,cap,cur,rfl,hb,hg,r⟩
 ·exact .inl h2
 ·exact .inr ⟨g,cap,cur,rfl,hb,by rw[hs g rfl (aGe.1 hg).1];exact hg,r⟩
theorem news_ofT (w:World)(t:TypeId)(l:List Value):∀j u,l[j]? = some u→(w.alloc (.cells l.toArray t)).cell? ((⟨w.heap.size,0,none⟩:Addr).add j)=some u :=
 World.news_of_block (cs:=l.toArray) (t:=t) (fr:=(0,0)) (heap_alloc_new w _)
theorem own_base {w:World}{base base' e size n:Nat}{v:Value}{xs:List Value}(h:w.ownsRow base e size v n xs)(hb:base' ≤ base):w.ownsRow base' e size v n xs:=by
 refine⟨h.1,?_⟩
 rcases h.2 with h|⟨g,c,cur,h1,h2,h3⟩
 ·exact .inl h
 ·exact .inr ⟨g,c,cur,h1,Nat.le_trans hb h2,h3⟩
theorem set_same {w:World}{B j:Nat}{cs:Array Value}{t:TypeId}{fr:Nat×Nat}(h:w.heap[B]? = some (.cells cs t fr))(u:Value):(w.setCell ⟨B,j,none⟩ u).heap[B]? = some (.cells (cs.setIfInBounds j u) t fr):=by
 have hB:B<w.heap.size:=by
  rcases Nat.lt_or_ge B w.heap.size with h1|h1
  ·exact h1
  ·rw[Array.getElem?_eq_none h1] at h;cases h
 unfold World.setCell
 simp only[Array.getElem?_modify]
 simp[h]
end Go.Proofs.YthdjmldddjljfaaGreatDoor
