/-
  OUR OWN.
-/
import Derived.Test.YthdjmldddjljfaaGreatDoorH09
import Derived.Test.YthdjmldddjljfaaGreatDoorH12
set_option maxHeartbeats 8000000
set_option maxRecDepth 20000
namespace Go.Proofs.YthdjmldddjljfaaGreatDoor
open Go.RowKit Go.Shelf
attribute [local go_sem] Oper.semAt_some
structure Pt where
 ao:Option Addr
 len:Nat
 cap:Nat
 val:ByteArray
 node:Value
 hash:ByteArray
 nd:isNd node
def Pt.cells (x:Pt):List Value:=[.slice x.ao x.len x.cap,.string x.val,x.node,.string x.hash]
def Pt.enc (x:Pt):Array Value:=#[.agg #[.slice x.ao x.len x.cap,.string x.val,x.node,.string x.hash]]
def ptCells (xs:List Pt):List Value:=xs.flatMap Pt.cells
theorem ptCells_snoc (xs:List Pt)(x:Pt):ptCells (xs++[x])=ptCells xs++x.cells:=by simp[ptCells]
theorem Pt.one (x:Pt):∀u∈x.cells,u.oneCell' = true:=by
 intro u hu
 simp only[Pt.cells,List.mem_cons,List.not_mem_nil,or_false] at hu
 rcases hu with rfl|rfl|rfl|rfl
 ·rfl
 ·rfl
 ·rcases x.nd with h|⟨t,b,h⟩<;>rw[h]<;>rfl
 ·rfl
theorem infoPt:(Tryz.prog.info? 191).map (fun i=>(i.zero,i.size,i.bytes))=some (some (.agg #[.slice none 0 0,.string ⟨#[]⟩,.nilIface,.string ⟨#[]⟩]),4,72):=by kernel_rfl
structure KpT (W W' : World):Prop where
 size:W.heap.size≤W'.heap.size
 same:∀(k:Nat) (cs:Array Value) (t:TypeId) (fr:Nat×Nat),W.heap[k]? = some (Obj.cells cs t fr)→t≠191→t≠286→W'.heap[k]? = some (Obj.cells cs t fr)
theorem KpT.turn {B:Nat}(A A' A'' A''' : World)(h1:Turned B A A')(h2:KpT A' A'')(h3:Turned B A'' A'''):KpT A A''' :=
 ⟨Nat.le_trans h1.size (Nat.le_trans h2.size h3.size),fun k cs t fr h n1 n2=>h3.same k _ (h2.same k cs t fr (h1.same k _ h (.inr rfl)) n1 n2) (.inr rfl)⟩
structure AsI (w:World)(pre:List Pt)(W:World):Prop where
 bel:Below w.heap.size w W
 own:∃v,W.heap[w.heap.size]? = some (.cells #[v] 286 (0,0))∧W.ownsRow (w.heap.size+1) 191 4 v pre.length (ptCells pre)
theorem AsI.turn {w:World}{pre:List Pt}{A A' : World}(h:AsI w pre A)(ht:Turned (w.heap.size+1) A A'):AsI w pre A' := by
 obtain⟨v,h1,h2⟩:=h.own
 refine⟨⟨ht.os.trans h.bel.os,ht.tape.trans h.bel.tape,ht.output.trans h.bel.output,Nat.le_trans h.bel.size ht.size,fun k hk=>?_⟩,v,ht.same _ _ h1 (.inr rfl),h2.1,?_⟩
 ·rw[←h.bel.block k hk]
  have hlt:k<A.heap.size:=Nat.lt_of_lt_of_le hk h.bel.size
  rw[Array.getElem?_eq_getElem hlt]
  exact ht.same k _ (Array.getElem?_eq_getElem hlt) (.inl (by omega))
 ·rcases h2.2 with h3|⟨g,c,cur,k1,k2,k3,k4⟩
  ·exact .inl h3
  ·exact .inr ⟨g,c,cur,k1,k2,ht.same _ _ k3 (.inr rfl),k4⟩
theorem pays_alloc (B:Nat)(W:World)(o:Obj):Pays B W (W.alloc o):=fun _ _ _ h _=>(Below.heap_alloc _ _ _ (aGe.1 h).1).trans h
theorem as_fin {w W w1:World}{pre:List Pt}{x:Pt}{v v' : Value}{tc:Array Value}(hb:Below w.heap.size w W)(hbox:W.heap[w.heap.size]? = some (.cells #[v] 286 (0,0)))(hrow:W.ownsRow (w.heap.size+1) 191 4 v pre.length (ptCells pre))
  (ho:w1.ownsRow (w.heap.size+1) 191 4 v' (pre.length+1) (ptCells pre++x.cells)) (hg:(W.alloc (.cells tc 191)).grownBy w1 v.ownBlock) :
  w1.heap[w.heap.size]? = some (.cells #[v] 286 (0,0))∧w1.frozen? ⟨w.heap.size,0,none⟩=false∧Pays (w.heap.size+1) W (w1.setCell ⟨w.heap.size,0,none⟩ v')∧KpT W (w1.setCell ⟨w.heap.size,0,none⟩ v')∧AsI w (pre++[x]) (w1.setCell ⟨w.heap.size,0,none⟩ v'):=by
 have hlt:=(aGe.1 hbox).1
 have old:∀(k:Nat) o,W.heap[k]? = some o→some k≠v.ownBlock→w1.heap[k]? = some o:=fun k o h hne=>by
  have hk:=(aGe.1 h).1
  rw[hg.block k (by simp;omega) hne,Below.heap_alloc _ _ _ hk]
  exact h
 have hnb:some w.heap.size≠v.ownBlock:=fun e=>by
  have:=own_ge hrow (Nat.le_refl _) _ e.symm
  omega
 have hb1:=old _ _ hbox hnb
 have rowT:∀k,v.ownBlock=some k→∃cs,W.heap[k]? = some (.cells cs 191 (0,0)):=fun k e=>by
  rcases hrow.2 with⟨h,_⟩|⟨g,c,cur,h,_,h3,_⟩
  ·rw[h] at e;simp[Value.ownBlock] at e
  ·rw[h] at e
   simp[Value.ownBlock] at e
   subst e
   exact⟨cur,h3⟩
 have hsz:(w1.setCell ⟨w.heap.size,0,none⟩ v').heap.size=w1.heap.size:=by simp[World.setCell]
 have hgs:=hg.size
 simp only[World.size_alloc] at hgs
 refine⟨hb1,frozen_of_row w1 _ 0 _ _ hb1,?_,⟨by rw[hsz];omega,?_⟩,⟨?_,v', ?_,?_⟩⟩
 ·intro k o hk h hc
  have hne:some k≠v.ownBlock:=fun e=>by
   obtain⟨cs,hcs⟩:=rowT k e.symm
   rw[h] at hcs
   injection hcs with hcs
   subst hcs
   cases hc
  rw[Below.heap_setCell _ _ _ _ (fun e=>by have e:k=w.heap.size:=e;omega)]
  exact old k o h hne
 ·intro k cs t fr h n1 n2
  have hne:some k≠v.ownBlock:=fun e=>by
   obtain⟨cs', hcs⟩:=rowT k e.symm
   rw[h] at hcs
   injection hcs with hcs
   injection hcs with _ ht _
   exact n1 ht
  have hkb:k≠w.heap.size:=fun e=>by
   subst e
   rw[hbox] at h
   injection h with h
   injection h with _ ht _
   exact n2 ht.symm
  rw[Below.heap_setCell _ _ _ _ hkb]
  exact old k _ h hne
 ·have h1:Below w.heap.size w w1:=(hb.alloc hb.size _).grown hg (by have:=hb.size;simp;omega) (own_ge hrow (by omega))
  exact h1.setCell (p:=⟨w.heap.size,0,none⟩) (Nat.le_refl _) _
 ·have:=heap_setCell_same w1 w.heap.size 0 _ 286 v' hb1
  exact this
 ·rw[List.length_append,ptCells_snoc]
  refine⟨ho.1,?_⟩
  rcases ho.2 with h|⟨g,c,cur,k1,k2,k3,k4⟩
  ·exact .inl h
  ·exact .inr ⟨g,c,cur,k1,k2,by rw[Below.heap_setCell _ _ _ _ (fun e=>by have e:g=w.heap.size:=e;omega)];exact k3,k4⟩
set_option maxRecDepth 100000 in
theorem appendSeq_in (F:Fence)(n:Nat)(h0:F.fn 187)(hro:F.round=none)(hn:3≤n){gf:Nat}{lb:Array Value}(hFg:F.fn gf)(eg:∀args w,(callFunc gf args).run Tryz.prog w=.ok (.enter gf args) w)(w:World)
  {Fx:Pt→World→Prop} {S:List Pt→World→Prop} (hFx:∀x A A', Fx x A→Turned (w.heap.size+1) A A' → Fx x A') (hS:∀xs A A', S xs A→Turned (w.heap.size+1) A A' → S xs A')
  (hseq:∀(l:Nat) (J:List Pt→World→Prop) (W:World),Turned (w.heap.size+1) (w.alloc (.cells #[.slice none 0 0] 286)) W→(∀pre A A', J pre A→Below A.heap.size A A' → J pre A') →
    (∀pre x W1,J pre W1→Fx x W1→pre.length<1000→YieldAt F (n - 1 - 1) Tryz.prog l (Pt.enc x) W1 fun e W' => e=.returned (.bool true)∧J (pre++[x]) W' ∧ KpT W1 W')→J [] W →
    CallsIn F (n - 1) Tryz.prog gf (#[.func (.yield l) #[] #[]]++lb) W fun e W' => (∃v,e=.returned v)∧∃xs,(S xs W' ∧ xs.length≤1000)∧J xs W') :
  CallsIn F n Tryz.prog 187 #[.slice none 0 0,.func (.func gf) #[] lb] w fun e W' => ∃v xs,e=.returned v∧W'.ownsRow (w.heap.size+1) 191 4 v xs.length (ptCells xs)∧S xs W' ∧ Below w.heap.size w W' := by
 have h1:1≤n:=by omega
 obtain⟨i0,hi,hz0,hz1,hz2⟩:=info_parts infoPt
 refine callsIn_of_wp_marks Tryz.func187 rfl h0 ?_ hro
 simp only[Tryz.ntmps187,List.size_toArray,List.length_cons,List.length_nil,Nat.reduceAdd,Nat.reduceSub,Array.replicate_succ,Array.replicate_zero,List.push_toArray,List.append_toArray,List.nil_append,List.cons_append]
 gi_wp2_with fail
 have hsz:(w.alloc (.cells #[.slice none 0 0] 286)).heap.size=w.heap.size+1:=by simp
 have hKk:∀A A' A'' A''', Turned (w.alloc (.cells #[.slice none 0 0] 286)).heap.size A A' → KpT A' A'' → Turned (w.alloc (.cells #[.slice none 0 0] 286)).heap.size A'' A''' → KpT A A''' := fun A A' A'' A''' h1 h2 h3=>KpT.turn A A' A'' A''' h1 h2 h3
 refine rangeX (α:=Pt) hro h1 (gf:=gf) (lb:=lb) rfl hFg eg (encs:=Pt.enc) (fun _=>rfl) (Fx:=Fx) (Kp:=KpT) (S:=fun xs W=>S xs W∧xs.length≤1000) 1000 (AsI w)
  (fun pre A A' h ht=>h.turn (by rw[hsz] at ht;exact ht)) (fun x A A' h ht=>hFx x A A' h (by rw[hsz] at ht;exact ht)) hKk (fun xs A A' h ht=>⟨hS xs A A' h.1 (by rw[hsz] at ht;exact ht),h.2⟩)
  (fun l J W hW hJ hY hJ0=>hseq l J W (by rw[hsz] at hW;exact hW) hJ hY hJ0)
  ⟨below_alloc w _,_,heap_alloc_new w _,World.ownsRow_nil _ _ _ _⟩
  (fun x a' W=>∃Bx:Nat,W.heap[Bx]? = some (.cells #[.slice x.ao x.len x.cap,.string x.val,x.node,.string x.hash] 191 (0,0))∧a' = { tmps:=#[.slice none 0 0,.func (.func gf) #[] lb,.pointer (some ⟨w.heap.size,0,none⟩),undef,.slice none 0 0,.pointer (some ⟨Bx,0,none⟩),.func (.func gf) #[] lb,.agg #[.slice x.ao x.len x.cap,.string x.val,x.node,.string x.hash],undef,undef,undef,undef,undef],defers:=[] })
  ?assign (fun x a' A A' ⟨Bx,k1,k2⟩ ht=>⟨Bx,ht.same _ _ k1 (.inr rfl),k2⟩) ?body ?done
 case assign =>
  intro l pre x W K hi hx hK
  obtain⟨xa,xl,xc,xv,xn,xh,hxn⟩:=x
  simp only[Pt.enc]
  rcases hxn with rfl|⟨t,b,rfl⟩
  all_goals
   gi_wp2
   exact hK _ _ ⟨W.heap.size,heap_alloc_new W _,rfl⟩ (hi.turn (Turned.of_below (below_alloc W _))) (hFx _ _ _ hx (Turned.of_below (below_alloc W _))) (pays_alloc _ W _) (Turned.of_below (below_alloc W _))
 case body =>
  rintro l pre x a' W ⟨Bx,hbx,rfl⟩ hi2 hx hlt
  obtain⟨v,hbox,hrow⟩:=hi2.own
  have c0:W.cell? ⟨Bx,0,none⟩=some (.slice x.ao x.len x.cap):=cell_of_row W _ 0 _ _ (0,0) hbx
  have c1:W.cell? ⟨Bx,1,none⟩=some (.string x.val):=cell_of_row W _ 1 _ _ (0,0) hbx
  have c2:W.cell? ⟨Bx,2,none⟩=some x.node:=cell_of_row W _ 2 _ _ (0,0) hbx
  have c3:W.cell? ⟨Bx,3,none⟩=some (.string x.hash):=cell_of_row W _ 3 _ _ (0,0) hbx
  have cb:W.cell? ⟨w.heap.size,0,none⟩=some v:=cell_of_row W _ 0 _ _ (0,0) hbox
  have HFin:=hide (fun (v' : Value) (w1:World) ho hg=>as_fin (w:=w) (pre:=pre) (x:=x) (tc:=#[.slice x.ao x.len x.cap,.string x.val,x.node,.string x.hash]) hi2.bel hbox hrow (w1:=w1) (v' := v') ho hg)
  have hbs:=hi2.bel.size
  have hbl:=(aGe.1 hbox).1
  gi_wp2_with (gi_at_builtin;refine wpListIn_append_own _ rfl _ _ 286 rfl (w.heap.size+1) 191 i0 _ 4 72 Tryz.underlying286 hi hz0 hz1 hz2 rfl (by decide) _ _ _ rfl (hrow.alloc _) ⟨W.heap.size,0,none⟩ 1 1 x.cells rfl rfl (World.news_of_block (heap_alloc_new W _)) x.one (by unfold maxLen;omega) (by omega) (by simp;omega) ?_;intro v' w1 hown' hgrow _;obtain⟨g', cap', rfl⟩:=ownsRow_succ hown';obtain⟨hb1,hz1', hfin⟩:=HFin.out _ _ hown' hgrow;have cb1:w1.cell? ⟨w.heap.size,0,none⟩=some v:=cell_of_row w1 _ 0 _ _ (0,0) hb1)
 case done =>
  rintro D xs W hD ⟨hs,_⟩ hi2 hK
  obtain⟨v,hbox,hrow⟩:=hi2.own
  have cb:W.cell? ⟨w.heap.size,0,none⟩=some v:=cell_of_row W _ 0 _ _ (0,0) hbox
  gi_wp2
  refine⟨by simp,.inl ⟨_,_,rfl,run_takeDeferred hK,?_⟩⟩
  rw[hsz] at hD
  have ht:Turned (w.heap.size+1) W (W.putObj D (.deferred none)):=Turned.put hD hK rfl
  have hi3:=hi2.turn ht
  refine⟨_,results_tmp rfl _ _ _,v,xs,rfl,ownsRow_putObj hrow _ hK rfl,hS _ _ _ hs ht,hi3.bel⟩
end Go.Proofs.YthdjmldddjljfaaGreatDoor
