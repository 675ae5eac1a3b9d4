/-
  OUR OWN.
-/
import Derived.Test.YthdjmldddjljfaaGreatDoorProg
import Derived.Test.YthdjmldddjljfaaGreatDoorH05
import Derived.Test.YthdjmldddjljfaaGreatDoorH01
import Derived.BigQuiet
import Derived.Deep.QuietTactic
import Derived.Deep.RegionHeld3
import Derived.Deep.DrawnRows
import Derived.Lib.SliceRun
set_option maxHeartbeats 8000000
set_option maxRecDepth 20000
namespace Go.Proofs.YthdjmldddjljfaaGreatDoor
open Go.RowKit
attribute [local go_sem ↓] Go.wp_at_zero Go.wp_at_succ
def numV (n:Nat):Value:=.int .i64 (n:Int)
structure Nums (w:World)(ao:Option Addr)(p:List Nat):Prop where
 spot:∀a,ao=some a→a.spot=none
 at' : ∀k,k<p.length→∃b off,ao=some ⟨b,off,none⟩∧w.cell? ⟨b,off+k,none⟩=some (.int .i64 ((p.getD k 0:Nat):Int))
theorem Nums.keep {w w' : World}{ao:Option Addr}{p:List Nat}(h:Nums w ao p){B:Nat}(hb:Below B w w')(hB:w.heap.size≤B):Nums w' ao p:=⟨h.spot,fun k hk=>by
 obtain⟨b,off,h1,h2⟩:=h.at' k hk
 have hl:=World.block_lt_of_cell? w _ h2
 exact⟨b,off,h1,(World.cell?_of_block (w:=w) (w' := w') (a:=⟨b,off+k,none⟩) (hb.block b (Nat.lt_of_lt_of_le hl hB))).trans h2⟩⟩
theorem Nums.nil {w:World}{ao:Option Addr}(h:∀a,ao=some a→a.spot=none):Nums w ao []:=⟨h,fun k hk=>by simp at hk⟩
theorem Nums.own {w:World}{base e n c:Nat}{ao:Option Addr}{p:List Nat}(h:w.ownsRow base e 1 (.slice ao n c) n (p.map numV)):Nums w ao p:=by
 refine⟨fun a ha=>?_,fun k hk=>?_⟩
 ·rcases h.2 with⟨h1,_⟩|⟨g,c', cur,hh,_⟩
  ·injection h1 with h1 _ _;rw[ha] at h1;cases h1
  ·injection hh with hh1 _ _;rw[ha] at hh1;injection hh1 with hh1;rw[hh1]
 rcases h.2 with⟨_,h0⟩|⟨g,c', cur,hh,_⟩
 ·have:=h.1
  simp at this;omega
 ·injection hh with hh1 _ _
  have h2:=h.cells (g:=g) (by rw[hh1];rfl) k (numV (p.getD k 0)) (by simp[List.getD_eq_getElem?_getD,hk])
  rw[addr_add] at h2
  exact⟨g,0,hh1,h2⟩
theorem Nums.reads {w:World}{ao:Option Addr}{p:List Nat}(h:Nums w ao p)(cap:Nat)(h0:ao=none→p=[]∧cap=0):Reads w (.slice ao p.length cap) p.length (p.map numV):=by
 cases ao with
 | none =>
   obtain⟨rfl,rfl⟩:=h0 rfl
   exact .inl ⟨rfl,rfl,rfl⟩
 | some a =>
   refine .inr ⟨a,cap,rfl,fun j u hu=>?_⟩
   have hj:j<p.length:=by have:=(List.getElem?_eq_some_iff.1 hu).1;simpa using this
   obtain⟨b,off,h1,h2⟩:=h.at' j hj
   obtain rfl:a=⟨b,off,none⟩:=by simpa using h1
   rw[addr_add,h2]
   have e:(p.map numV)[j]? = some (numV (p.getD j 0)):=by simp[List.getD_eq_getElem?_getD,hj]
   rw[e] at hu
   exact hu
theorem Nums.drop {w:World}{b off:Nat}{p:List Nat}(h:Nums w (some ⟨b,off,none⟩) p)(n:Nat):Nums w (some ⟨b,off+n,none⟩) (p.drop n):=⟨fun a e=>by injection e with e;rw[←e],fun k hk=>by
 rw[List.length_drop] at hk
 obtain⟨b', off', h1,h2⟩:=h.at' (n+k) (by omega)
 obtain⟨rfl,rfl⟩:b=b' ∧ off=off' := by simpa using h1
 refine⟨b,off+n,rfl,?_⟩
 rw[Nat.add_assoc,h2]
 simp[List.getD_eq_getElem?_getD,List.getElem?_drop]⟩
theorem Nums.take {w:World}{ao:Option Addr}{p:List Nat}(h:Nums w ao p)(n:Nat):Nums w ao (p.take n):=⟨h.spot,fun k hk=>by
 rw[List.length_take] at hk
 obtain⟨b,off,h1,h2⟩:=h.at' k (by omega)
 refine⟨b,off,h1,?_⟩
 rw[h2]
 have hk2:k<n:=by omega
 simp[List.getD_eq_getElem?_getD,hk2]⟩
def ptr (b:Nat):Value:=.pointer (some ⟨b,0,none⟩)
def brCell (us:Nat→Value)(hs:Nat→ByteArray)(x:ByteArray)(j:Nat):Value:=if j=32 then .string x else if j % 2=0 then us (j / 2) else .string (hs (j / 2))
def brCells (us:Nat→Value)(hs:Nat→ByteArray)(x:ByteArray):Array Value:=((List.range 33).map (brCell us hs x)).toArray
theorem brCells_size (us:Nat→Value)(hs:Nat→ByteArray)(x:ByteArray):(brCells us hs x).size=33:=by simp[brCells]
theorem brCells_get (us:Nat→Value)(hs:Nat→ByteArray)(x:ByteArray)(j:Nat)(h:j<33):(brCells us hs x)[j]? = some (brCell us hs x j):=by simp[brCells,h]
def updV {α:Type}(f:Nat→α)(i:Nat)(x:α):Nat→α:=fun j=>if j=i then x else f j
theorem brCells_none (us:Nat→Value)(hs:Nat→ByteArray)(x:ByteArray)(j:Nat)(h:33≤j):(brCells us hs x)[j]? = none:=Array.getElem?_eq_none (by rw[brCells_size];exact h)
theorem brCells_set (us:Nat→Value)(hs:Nat→ByteArray)(x:ByteArray)(i:Nat)(hi:i<16)(u:Value)(h:ByteArray):((brCells us hs x).setIfInBounds (i*2) u).setIfInBounds (i*2+1) (.string h)=brCells (updV us i u) (updV hs i h) x:=by
 apply Array.ext_getElem?
 intro j
 by_cases hj:j<33
 ·rw[brCells_get _ _ _ j hj,Array.getElem?_setIfInBounds,Array.size_setIfInBounds,brCells_size]
  by_cases c1:i*2+1=j
  ·rw[if_pos c1,if_pos (by omega)]
   unfold brCell updV
   rw[if_neg (by omega),if_neg (by omega),if_pos (by omega)]
  ·rw[if_neg c1,Array.getElem?_setIfInBounds,brCells_size]
   by_cases c2:i*2=j
   ·rw[if_pos c2,if_pos (by omega)]
    unfold brCell updV
    rw[if_neg (by omega),if_pos (by omega),if_pos (by omega)]
   ·rw[if_neg c2,brCells_get _ _ _ j hj]
    unfold brCell updV
    by_cases c3:j=32
    ·rw[if_pos c3,if_pos c3]
    ·rw[if_neg c3,if_neg c3]
     by_cases c4:j % 2=0
     ·rw[if_pos c4,if_pos c4,if_neg (by omega)]
     ·rw[if_neg c4,if_neg c4,if_neg (by omega)]
 ·rw[brCells_none _ _ _ j (by omega),Array.getElem?_eq_none (by simp only[Array.size_setIfInBounds,brCells_size];omega)]
theorem brCells_val (us:Nat→Value)(hs:Nat→ByteArray)(x y:ByteArray):(brCells us hs x).setIfInBounds 32 (.string y)=brCells us hs y:=by
 apply Array.ext_getElem?
 intro j
 by_cases hj:j<33
 ·rw[brCells_get _ _ _ j hj,Array.getElem?_setIfInBounds,brCells_size]
  by_cases c1:32=j
  ·rw[if_pos c1,if_pos (by omega)]
   unfold brCell
   rw[if_pos c1.symm]
  ·rw[if_neg c1,brCells_get _ _ _ j hj]
   have c2:¬j=32:=fun e=>c1 e.symm
   unfold brCell
   simp only[c2,if_false]
 ·rw[brCells_none _ _ _ j (by omega),Array.getElem?_eq_none (by simp only[Array.size_setIfInBounds,brCells_size];omega)]
theorem br_ref {w:World}{b:Nat}{us:Nat→Value}{hs:Nat→ByteArray}{x:ByteArray}(h:w.heap[b]? = some (.cells (brCells us hs x) 285 (0,0)))(i:Nat)(hi:i<16):w.cell? ⟨b,i*2,none⟩=some (us i)∧w.cell? ⟨b,i*2+1,none⟩=some (.string (hs i)):=by
 constructor
 ·rw[cell_of_row w b _ _ _ (0,0) h,brCells_get _ _ _ _ (by omega)]
  unfold brCell
  rw[if_neg (by omega),if_pos (by omega),show i*2 / 2=i from by omega]
 ·rw[cell_of_row w b _ _ _ (0,0) h,brCells_get _ _ _ _ (by omega)]
  unfold brCell
  rw[if_neg (by omega),if_neg (by omega),show (i*2+1) / 2=i from by omega]
theorem br_val {w:World}{b:Nat}{us:Nat→Value}{hs:Nat→ByteArray}{x:ByteArray}(h:w.heap[b]? = some (.cells (brCells us hs x) 285 (0,0))):w.cell? ⟨b,32,none⟩=some (.string x):=by
 rw[cell_of_row w b _ _ _ (0,0) h,brCells_get _ _ _ _ (by omega)]
 rfl
def PathIn (ok:Nat→Prop)(ao:Option Addr)(p:List Nat):Prop:=∀a,ao=some a→p≠[]→ok a.block
theorem Nums.lt {w:World}{ao:Option Addr}{p:List Nat}(h:Nums w ao p):PathIn (fun b=>b<w.heap.size) ao p:=fun a e hn=>by
 obtain⟨b,off,h1,h2⟩:=h.at' 0 (List.length_pos_iff.2 hn)
 obtain rfl:a=⟨b,off,none⟩:=by rw[e] at h1;simpa using h1
 exact World.block_lt_of_cell? w _ h2
theorem Nums.keepIn {w w' : World}{ao:Option Addr}{p:List Nat}{ok:Nat→Prop}(h:Nums w ao p)(hp:PathIn ok ao p)(hk:∀b,ok b→b<w.heap.size→w'.heap[b]? = w.heap[b]?):Nums w' ao p:=⟨h.spot,fun k hk' => by
 obtain⟨b,off,h1,h2⟩:=h.at' k hk'
 have hl:=World.block_lt_of_cell? w _ h2
 exact⟨b,off,h1,(World.cell?_of_block (w:=w) (w' := w') (a:=⟨b,off+k,none⟩) (hk b (hp _ h1 (fun e=>by rw[e] at hk';simp at hk')) hl)).trans h2⟩⟩
def NdAt (Hk:Nd→ByteArray→Prop)(ok:Nat→Prop)(w:World):Nd→Value→Prop
 | .nil=>fun v=>v=.nilIface
 | .leaf p x=>fun v=>∃b ao cap,v=.iface 153 (ptr b)∧ok b∧PathIn ok ao p∧w.heap[b]? = some (.cells #[Value.slice ao p.length cap,.string x] 199 (0,0))∧Nums w ao p∧(ao=none→cap=0)∧p.length≤cap
 | .ext p n=>fun v=>∃b ao cap u h,v=.iface 250 (ptr b)∧ok b∧PathIn ok ao p∧w.heap[b]? = some (.cells #[.slice ao p.length cap,u,.string h] 282 (0,0))∧Nums w ao p∧(ao=none→cap=0)∧p.length≤cap∧NdAt Hk ok w n u∧(h=e0∨Hk n h)
 | .br c x=>fun v=>∃b us hs,v=.iface 252 (ptr b)∧ok b∧w.heap[b]? = some (.cells (brCells us hs x) 285 (0,0))∧∀i,i<16→NdAt Hk ok w (c i) (us i)∧(hs i=e0∨(c i≠.nil∧Hk (c i) (hs i)))
theorem NdAt.keepIn {Hk:Nd→ByteArray→Prop}{ok:Nat→Prop}{w w' : World}(hk:∀b,ok b→b<w.heap.size→w'.heap[b]? = w.heap[b]?):∀(n:Nd) (v:Value),NdAt Hk ok w n v→NdAt Hk ok w' n v
 | .nil,_,h=>h
 | .leaf _ _,_,⟨b,ao,cap,h1,o1,o2,h2,h3,h4⟩=>⟨b,ao,cap,h1,o1,o2,by rw[hk b o1 (aGe.1 h2).1];exact h2,h3.keepIn o2 hk,h4⟩
 | .ext _ n,_,⟨b,ao,cap,u,h,h1,o1,o2,h2,h3,h4,h5,h6,h7⟩=>⟨b,ao,cap,u,h,h1,o1,o2,by rw[hk b o1 (aGe.1 h2).1];exact h2,h3.keepIn o2 hk,h4,h5,NdAt.keepIn hk n u h6,h7⟩
 | .br c _,_,⟨b,us,hs,h1,o1,h2,h3⟩=>⟨b,us,hs,h1,o1,by rw[hk b o1 (aGe.1 h2).1];exact h2,fun i hi=>⟨NdAt.keepIn hk (c i) (us i) (h3 i hi).1,(h3 i hi).2⟩⟩
theorem NdAt.mono {Hk:Nd→ByteArray→Prop}{ok ok' : Nat→Prop}{w:World}(hk:∀b,ok b→ok' b):∀(n:Nd) (v:Value),NdAt Hk ok w n v→NdAt Hk ok' w n v
 | .nil,_,h=>h
 | .leaf _ _,_,⟨b,ao,cap,h1,o1,o2,h2⟩=>⟨b,ao,cap,h1,hk b o1,fun a e hn=>hk _ (o2 a e hn),h2⟩
 | .ext _ n,_,⟨b,ao,cap,u,h,h1,o1,o2,h2,h3,h4,h5,h6,h7⟩=>⟨b,ao,cap,u,h,h1,hk b o1,fun a e hn=>hk _ (o2 a e hn),h2,h3,h4,h5,NdAt.mono hk n u h6,h7⟩
 | .br c _,_,⟨b,us,hs,h1,o1,h2,h3⟩=>⟨b,us,hs,h1,hk b o1,h2,fun i hi=>⟨NdAt.mono hk (c i) (us i) (h3 i hi).1,(h3 i hi).2⟩⟩
theorem NdAt.keep {Hk:Nd→ByteArray→Prop}{ok:Nat→Prop}{w w' : World}{n:Nd}{v:Value}(h:NdAt Hk ok w n v)(hb:Below w.heap.size w w'):NdAt Hk ok w' n v:=NdAt.keepIn (fun b _ hl=>hb.block b hl) n v h
theorem NdAt.lt {Hk:Nd→ByteArray→Prop}{ok:Nat→Prop}{w:World}:∀(n:Nd) (v:Value),NdAt Hk ok w n v→NdAt Hk (fun b=>b<w.heap.size) w n v
 | .nil,_,h=>h
 | .leaf _ _,_,⟨b,ao,cap,h1,_,_,h2,h3,h4⟩=>⟨b,ao,cap,h1,(aGe.1 h2).1,Nums.lt h3,h2,h3,h4⟩
 | .ext _ n,_,⟨b,ao,cap,u,h,h1,_,_,h2,h3,h4,h5,h6,h7⟩=>⟨b,ao,cap,u,h,h1,(aGe.1 h2).1,Nums.lt h3,h2,h3,h4,h5,NdAt.lt n u h6,h7⟩
 | .br c _,_,⟨b,us,hs,h1,_,h2,h3⟩=>⟨b,us,hs,h1,(aGe.1 h2).1,h2,fun i hi=>⟨NdAt.lt (c i) (us i) (h3 i hi).1,(h3 i hi).2⟩⟩
theorem NdAt.some {Hk:Nd→ByteArray→Prop}{ok:Nat→Prop}{w:World}{n:Nd}{v:Value}(h:NdAt Hk ok w n v)(hn:n≠.nil):∃t b,v=.iface t (ptr b):=by
 cases n with
 | nil=>exact absurd rfl hn
 | leaf p x=>obtain⟨b,_,_,h1,_⟩:=h;exact⟨_,b,h1⟩
 | ext p m=>obtain⟨b,_,_,_,_,h1,_⟩:=h;exact⟨_,b,h1⟩
 | br c x=>obtain⟨b,_,_,h1,_⟩:=h;exact⟨_,b,h1⟩
theorem isEmpty_yes (b off:Nat)(w:World)(h0:w.cell? ⟨b,off,none⟩=some .nilIface)(h1:w.cell? ⟨b,off+1,none⟩=some (.string e0)) :
  Calls Tryz.prog 80 #[.pointer (some ⟨b,off,none⟩)] w fun e w' => e=.returned (.bool true)∧w' = w:=by
 go_enter Tryz.func80,Tryz.ntmps80
 go_wp2
 go_ret
 exact⟨rfl,rfl⟩
theorem isEmpty_no (b off:Nat)(t:TypeId)(x:Nat)(w:World)(h0:w.cell? ⟨b,off,none⟩=some (.iface t (ptr x))) :
  Calls Tryz.prog 80 #[.pointer (some ⟨b,off,none⟩)] w fun e w' => e=.returned (.bool false)∧w' = w:=by
 go_enter Tryz.func80,Tryz.ntmps80
 go_wp2
 go_ret
 exact⟨rfl,rfl⟩
def isNd (v:Value):Prop:=v=.nilIface∨∃t b,v=.iface t (ptr b)
theorem NdAt.isNd {Hk:Nd→ByteArray→Prop}{ok:Nat→Prop}{w:World}{n:Nd}{v:Value}(h:NdAt Hk ok w n v):isNd v:=by
 cases n with
 | nil=>exact .inl h
 | leaf p x=>obtain⟨b,_,_,h1,_⟩:=h;exact .inr ⟨_,b,h1⟩
 | ext p m=>obtain⟨b,_,_,_,_,h1,_⟩:=h;exact .inr ⟨_,b,h1⟩
 | br c x=>obtain⟨b,_,_,h1,_⟩:=h;exact .inr ⟨_,b,h1⟩
theorem infoI:(Tryz.prog.info? 3).map (fun i=>(i.zero,i.size,i.bytes))=some (some (.int .i64 0),1,8):=by kernel_rfl
def NewPath (B:Nat)(p:List Nat)(w:World)(e:Ending)(w' : World):Prop:=∃ao cap,e=.returned (.slice ao p.length cap)∧PathIn (fun b=>B≤b) ao p∧Nums w' ao p∧(ao=none→cap=0)∧p.length≤cap∧Below B w w'
theorem own_path {w:World}{base e n:Nat}{v:Value}{p:List Nat}(h:w.ownsRow base e 1 v n (p.map numV))(hn:n=p.length):∃ao cap,v=.slice ao p.length cap∧PathIn (fun b=>base≤b) ao p∧Nums w ao p∧(ao=none→cap=0)∧p.length≤cap:=by
 subst hn
 have h' := h
 rcases h.2 with⟨rfl,h0⟩|⟨g,c,cur,rfl,hg,_,h1,_⟩
 ·have hp:p=[]:=List.length_eq_zero_iff.1 h0
  subst hp
  exact⟨none,0,rfl,(fun a e=>by cases e),Nums.nil (fun a e=>by cases e),fun _=>rfl,Nat.le_refl _⟩
 ·exact⟨_,c,rfl,(fun a e _=>by cases e;exact hg),Nums.own h', (fun h=>by cases h),h1⟩
theorem qI (w:World)(a:Option Addr)(n c n' c' : Nat):(binOp .eql 80 (.slice a n c) (.slice none n' c')).run Tryz.prog w=.ok (.bool a.isNone) w:=Lib.run_eql_slice_nil w _ _ a n c n' c' Tryz.underlying80
theorem cloneI_any (ao:Option Addr)(cap:Nat)(p:List Nat)(w:World)(hp:Nums w ao p)(h0:ao=none→cap=0)(hc:p.length≤cap)(hm:p.length≤1000) :
  Calls Tryz.prog 112 #[.slice ao p.length cap] w fun e w' => NewPath w.heap.size p w e w' := by
 have q47:=qI
 cases ao with
 | none =>
   obtain rfl:=h0 rfl
   obtain rfl:p=[]:=List.length_eq_zero_iff.1 (by omega)
   go_enter Tryz.func112,Tryz.ntmps112
   go_wp2
   go_ret
   exact⟨none,0,rfl,(fun a e=>by cases e),Nums.nil (fun a e=>by cases e),fun _=>rfl,Nat.le_refl _,Below.refl _ _⟩
 | some a =>
   obtain⟨i0,hi,hz0,hz1,hz2⟩:=info_parts infoI
   have HR:Hid (Reads (w.alloc (.cells #[] 3)) (.slice (some a) p.length cap) p.length (p.map numV)):=(hp.reads cap (fun h=>by cases h)).keep (below_alloc _ _)
   have HO:Hid ((w.alloc (.cells #[] 3)).ownsRow w.heap.size 3 1 (.slice (some ⟨w.heap.size,0,none⟩) 0 0) 0 []):=World.ownsRow_made (base:=w.heap.size) (e:=3) (size:=1) w #[] 0 (Nat.le_refl _) (by unfold maxLen;omega) rfl
   have HM:=hide hm
   clear hp hm hc h0
   go_enter Tryz.func112,Tryz.ntmps112
   go_wp2_with (at_builtin;go_must (refine wpList_append_reads rfl (.tmp 5) (.tmp 6) 80 rfl w.heap.size 3 i0 (.int .i64 0) 1 8 Tryz.underlying80 hi hz0 hz1 hz2 rfl (by decide) _ 0 [] rfl HO.out _ p.length (p.map numV) rfl HR.out (by simp) (by intro u hu;simp[numV] at hu;obtain⟨x,_,rfl⟩:=hu;rfl) (by have:=HM.out;unfold maxLen;omega) (by have:=HM.out;omega) (by simp) ?_);intro v3 w3 ho3 hg3;go_must (have HO3:=hide (And.intro ho3 hg3));clear ho3 hg3)
   go_ret
   have ho:=HO3.out.1
   rw[List.nil_append] at ho
   obtain⟨ao', cap', rfl,h1,h2,h3,h4⟩:=own_path ho (by omega)
   exact⟨ao', cap', rfl,h1,h2,h3,h4,(below_alloc _ _).grown HO3.out.2 (by simp) (own_ge HO.out (Nat.le_refl _))⟩
theorem take_eq_step {p q:List Nat}{k:Nat}(h:p.take k=q.take k)(hp:k<p.length)(hq:k<q.length)(he:p.getD k 0=q.getD k 0):p.take (k+1)=q.take (k+1):=by
 rw[List.take_succ_eq_append_getElem hp,List.take_succ_eq_append_getElem hq,h]
 have e1:p.getD k 0=p[k]:=by simp[List.getD_eq_getElem?_getD,hp]
 have e2:q.getD k 0=q[k]:=by simp[List.getD_eq_getElem?_getD,hq]
 rw[←e1,←e2,he]
theorem shared_step {q p:List Nat}{n:Nat}(h:n<shared q p):n<q.length∧n<p.length∧q.getD n 0=p.getD n 0:=by
 have h1:=shared_le_left q p
 have h2:=shared_le_right q p
 refine⟨by omega,by omega,?_⟩
 have e:=congrArg (fun l=>l.getD n 0) (shared_take q p)
 simpa[List.getD_eq_getElem?_getD,List.getElem?_take,h] using e
theorem drew_below (w:World)(n:Nat):Below w.heap.size w (w.drewN n):=below_drewN (Below.refl _ _) n
theorem equalI_any (ao bo:Option Addr)(ca cb:Nat)(p q:List Nat)(w:World)(ha:Nums w ao p)(hb:Nums w bo q)(hp:p.length≤1000) :
  Calls Tryz.prog 213 #[.slice ao p.length ca,.slice bo q.length cb] w fun e w' => e=.returned (.bool (decide (p=q)))∧Below w.heap.size w w' := by
 by_cases hl:p.length=q.length
 ·have hl1:((p.length:Int) != (q.length:Int))=false:=by simp;omega
  have HA:=hide ha
  have HB:=hide hb
  have HL:=hide hl
  have hpI:(p.length:Int)≤1000:=by omega
  clear ha hb
  go_enter Tryz.func213,Tryz.ntmps213
  go_wp2_with fail
  clear hl hl1
  go_loopw [13] (fun i wr=>∃k:Nat,k≤p.length∧i=.int .i64 (k:Int)∧p.take k=q.take k∧∃n,wr=w.drewN n) (fun i _=>p.length - (intOf i).toNat)
  case atStart=>exact⟨0,Nat.zero_le _,rfl,by simp,0,rfl⟩
  case round =>
   obtain⟨k,hk,rfl,ht,n,rfl⟩:=hrel
   by_cases hlt:k<p.length
   ·have hlq:k<q.length:=by have:=HL.out;omega
    obtain⟨b1,o1,rfl,c1⟩:=HA.out.at' k hlt
    obtain⟨b2,o2,rfl,c2⟩:=HB.out.at' k hlq
    have HT:=hide ht
    have hkI:(k:Int)<(p.length:Int):=by omega
    have hkq:(k:Int)<(q.length:Int):=by omega
    have hk0:(0:Int)≤(k:Int):=by omega
    by_cases he:p.getD k 0=q.getD k 0
    ·have HS:=hide (take_eq_step ht hlt hlq he)
     rw[←he] at c2
     clear ht he hlq
     generalize p.getD k 0=z at *
     go_wp2
     go_quiet (fail)
     go_wp2
     go_roundw
     case rel=>exact⟨k+1,by omega,by go_num,HS.out,n+nq,rfl⟩
     case measure=>simp[intOf];omega
    ·have HN:Hid (p≠q):=fun e=>he (by rw[e])
     have hne:((p.getD k 0:Nat):Int)≠((q.getD k 0:Nat):Int):=by omega
     clear ht he hlq
     generalize p.getD k 0=z1 at *
     generalize q.getD k 0=z2 at *
     go_wp2
     go_quiet (fail)
     go_wp2
     go_ret
     exact⟨by rw[decide_eq_false HN.out];rfl,by first|exact below_drewN (drew_below _ _) _|exact drew_below _ _⟩
   ·obtain rfl:k=p.length:=by omega
    have HE:Hid (p=q):=by
     show p=q
     have h1:=HL.out
     rw[List.take_length,h1,List.take_length] at ht
     exact ht
    have hql:(q.length:Int)≤(p.length:Int):=by have:=HL.out;omega
    clear ht
    go_wp2
    go_ret
    exact⟨by rw[decide_eq_true HE.out];rfl,drew_below _ _⟩
 ·have hl1:((p.length:Int) != (q.length:Int))=true:=by simp;omega
  have HN:Hid (p≠q):=fun e=>hl (by rw[e])
  clear ha hb hl
  go_enter Tryz.func213,Tryz.ntmps213
  go_wp2
  go_ret
  exact⟨by rw[decide_eq_false HN.out];rfl,Below.refl _ _⟩
theorem sharedI_any (ao bo:Option Addr)(ca cb:Nat)(p q:List Nat)(w:World)(ha:Nums w ao p)(hb:Nums w bo q)(hp:p.length≤1000) :
  Calls Tryz.prog 214 #[.slice ao p.length ca,.slice bo q.length cb] w fun e w' => e=.returned (.int .i64 (shared p q:Int))∧Below w.heap.size w w' := by
 have HA:=hide ha
 have HB:=hide hb
 have hpI:(p.length:Int)≤1000:=by omega
 clear ha hb
 go_enter Tryz.func214,Tryz.ntmps214
 go_wp2_with fail
 go_loopw [5] (fun i wr=>∃k:Nat,k≤shared p q∧i=.int .i64 (k:Int)∧∃n,wr=w.drewN n) (fun i _=>shared p q - (intOf i).toNat)
 case atStart=>exact⟨0,Nat.zero_le _,rfl,0,rfl⟩
 case round =>
  obtain⟨k,hk,rfl,n,rfl⟩:=hrel
  have hk0:(0:Int)≤(k:Int):=by omega
  by_cases hlt:k<shared p q
  ·obtain⟨l1,l2,he⟩:=shared_step hlt
   obtain⟨b1,o1,rfl,c1⟩:=HA.out.at' k l1
   obtain⟨b2,o2,rfl,c2⟩:=HB.out.at' k l2
   rw[←he] at c2
   have d1:(k:Int)<(p.length:Int):=by omega
   have d2:(k:Int)<(q.length:Int):=by omega
   clear he
   generalize p.getD k 0=z at *
   go_wp2
   go_quiet (fail)
   go_wp2
   go_roundw
   case rel=>exact⟨k+1,by omega,by go_num,n+nq,rfl⟩
   case measure=>simp[intOf];omega
  ·have hke:k=shared p q:=by omega
   have h1:=shared_le_left p q
   have h2:=shared_le_right p q
   by_cases l1:k<p.length
   ·have d1:(k:Int)<(p.length:Int):=by omega
    by_cases l2:k<q.length
    ·have d2:(k:Int)<(q.length:Int):=by omega
     obtain⟨b1,o1,rfl,c1⟩:=HA.out.at' k l1
     obtain⟨b2,o2,rfl,c2⟩:=HB.out.at' k l2
     have hne:((p.getD k 0:Nat):Int)≠((q.getD k 0:Nat):Int):=by
      have:=shared_ne p q (p.getD k 0) (q.getD k 0) (by rw[←hke];simp[List.getD_eq_getElem?_getD,l1]) (by rw[←hke];simp[List.getD_eq_getElem?_getD,l2])
      omega
     have HK:=hide hke
     generalize p.getD k 0=z1 at *
     generalize q.getD k 0=z2 at *
     clear hke hlt hk h1 h2
     go_wp2
     go_quiet (fail)
     go_wp2
     go_ret
     exact⟨by rw[←HK.out];rfl,by first|exact below_drewN (drew_below _ _) _|exact drew_below _ _⟩
    ·have d2:(q.length:Int)≤(k:Int):=by omega
     have HK:=hide hke
     clear hke hlt hk h1 h2
     go_wp2
     go_quiet (fail)
     go_wp2
     go_ret
     exact⟨by rw[←HK.out];rfl,by first|exact below_drewN (drew_below _ _) _|exact drew_below _ _⟩
   ·have d1:(p.length:Int)≤(k:Int):=by omega
    have HK:=hide hke
    clear hke hlt hk h1 h2
    go_wp2
    go_quiet (fail)
    go_wp2
    go_ret
    exact⟨by rw[←HK.out];rfl,by first|exact below_drewN (drew_below _ _) _|exact drew_below _ _⟩
theorem newLeaf_any (Hk:Nd→ByteArray→Prop)(ao:Option Addr)(cap:Nat)(p:List Nat)(x:ByteArray)(w:World)(hp:Nums w ao p)(h0:ao=none→cap=0)(hc:p.length≤cap)(hm:p.length≤1000) :
  Calls Tryz.prog 81 #[.slice ao p.length cap,.string x] w fun e w' => ∃b,e=.returned (ptr b)∧b+1=w'.heap.size∧w.heap.size≤b∧NdAt Hk (fun k=>w.heap.size≤k) w' (.leaf p x) (.iface 153 (ptr b))∧Below w.heap.size w w' := by
 have HC:=hide (cloneI_any ao cap p w hp h0 hc hm)
 clear hp h0 hc hm
 go_enter Tryz.func81,Tryz.ntmps81
 go_wp2_with fail
 refine HC.out.mono ?_
 rintro e w1 ⟨ao1,cap1,rfl,h0,h1,h2,h3,hb⟩
 have HB:=hide hb
 have HN:=hide (And.intro h1 (And.intro h2 (And.intro h3 h0)))
 clear h0 h1 h2 h3 hb
 go_wp2
 go_ret
 exact⟨w1.heap.size,rfl,by simp,HB.out.size,⟨w1.heap.size,ao1,cap1,rfl,HB.out.size,HN.out.2.2.2,heap_alloc_new w1 _,HN.out.1.keep (below_alloc w1 _) (Nat.le_refl _),HN.out.2.1,HN.out.2.2.1⟩,HB.out.alloc HB.out.size _⟩
def markZ (n:Nat):List Int:=[65+(n:Int) % 26,97+(n:Int) / 26 % 26,48+(n:Int) / 676 % 10]
def markS (n:Nat):ByteArray:=(⟨#[109,97,114,107,32]⟩:ByteArray)++strOfNums (markZ n)
theorem mark_any (n:Nat)(w:World)(hn:n≤1000000000000) :
  Calls Tryz.prog 33 #[.int .i64 (n:Int)] w fun e w' => e=.returned (.string (markS n))∧Below w.heap.size w w' := by
 have j0:(0:Int)≤(n:Int):=by omega
 have HM:Hid (markS n=(⟨#[109,97,114,107,32]⟩:ByteArray)++strOfNums (markZ n)):=rfl
 have hcv:=run_convert_bytes_arg (P:=Tryz.prog) (w.alloc (.cells #[.int .u8 (65+(n:Int) % 26),.int .u8 (97+(n:Int) / 26 % 26),.int .u8 (48+(n:Int) / 676 % 10)] 5)) 144 5 Tryz.underlying144 Tryz.underlying5 w.heap.size 0 3 3 (markZ n) rfl (by
  intro i hi
  rw[Nat.zero_add,World.cell?_alloc_new]
  have h:i=0∨i=1∨i=2:=by omega
  rcases h with rfl|rfl|rfl<;>rfl) 9 Tryz.underlying9
 have hz:(strOfNums (markZ n)).size=3:=rfl
 have hadd:=fun W:World=>run_string_add_sum (P:=Tryz.prog) (w:=W) (⟨#[109,97,114,107,32]⟩:ByteArray) (strOfNums (markZ n)) (by rw[hz];decide)
 clear hz
 generalize markS n=M at *
 generalize strOfNums (markZ n)=Z at *
 go_enter Tryz.func33,Tryz.ntmps33
 go_wp2
 go_ret
 exact⟨by rw[HM.out];rfl,below_alloc _ _⟩
def lentS:ByteArray:=⟨#[108,101,110,116]⟩
def row3 (s:ByteArray):Array Value:=#[.string s,.string ⟨#[]⟩,.string s,.string ⟨#[]⟩,.string s,.string ⟨#[]⟩]
def part3 (s t:ByteArray):Nat→Array Value
 | 0=>#[.string t,.string ⟨#[]⟩,.string t,.string ⟨#[]⟩,.string t,.string ⟨#[]⟩]
 | 1=>#[.string s,.string ⟨#[]⟩,.string t,.string ⟨#[]⟩,.string t,.string ⟨#[]⟩]
 | 2=>#[.string s,.string ⟨#[]⟩,.string s,.string ⟨#[]⟩,.string t,.string ⟨#[]⟩]
 | _=>row3 s
theorem infoEnt:(Tryz.prog.info? 125).map (fun i=>(i.zero,i.size,i.bytes))=some (some (.agg #[.string ⟨#[]⟩,.string ⟨#[]⟩]),2,32):=by kernel_rfl
theorem make_ents (w:World):(Instr.makeSlice 22 (.int .i64 3) (.int .i64 3)).run Tryz.prog w=.ok (.slice (some ⟨w.heap.size,0,none⟩) 3 3) (w.alloc (.cells (row3 ⟨#[]⟩) 125)):=by
 obtain⟨i0,hi,hz0,hz1,hz2⟩:=info_parts infoEnt
 have h:=run_make (P:=Tryz.prog) w 22 125 i0 (.agg #[.string ⟨#[]⟩,.string ⟨#[]⟩]) Tryz.underlying22 hi hz0 .i64 .i64 3 3 (by omega) (by omega) (by rw[hz2];omega) (by omega)
 rw[show row3 ⟨#[]⟩=madeCells #[.string ⟨#[]⟩,.string ⟨#[]⟩] 6 from by kernel_rfl]
 simpa[hz1,Value.cells] using h
theorem sizeEnt:(Tryz.prog.info? 125).map (·.size)=some 2:=by kernel_rfl
theorem sizePair:(Tryz.prog.info? 33).map (·.size)=some 2:=by kernel_rfl
theorem run_copy_row2 {P:Program}(w:World)(dT sT ty elem:TypeId)(g o dLen dCap:Nat)(a:Addr)(sLen sCap:Nat)(cur:Array Value)(t:TypeId)(cs:List Value)
  (hu:P.underlying dT=some (.slice elem)) (hs:(P.info? elem).map (·.size)=some 2)
  (hg:w.heap[g]? = some (.cells cur t (0,0))) (hn:cs.length=Nat.min sLen dLen*2)
  (hsrc:∀j v,cs[j]? = some v→w.cell? (a.add j)=some v) (hfit:o+cs.length≤cur.size) (h1:∀v∈cs,v.oneCell' = true) :
  (Builtin.copy_ #[dT,sT] ty #[.slice (some ⟨g,o,none⟩) dLen dCap,.slice (some a) sLen sCap]).run P w =
    .ok (goInt (Nat.min sLen dLen)) (w.setRow g (cur.toList.take o++cs++cur.toList.drop (o+cs.length)).toArray):=by
 have hl:=run_loadCells_list (P:=P) w a cs hsrc
 have hst:=run_storeCells_at P g o t cs 0 cur w hg (by simpa using hfit) h1
 cases hq:P.info? elem with
 | none=>simp[hq] at hs
 | some i =>
   have hi:i.size=2:=by simpa[hq] using hs
   simp[Builtin.copy_,run_underlying hu,Builtin.lenOf,Builtin.firstCells,sizeOf,typeInfo,hq,hi,←hn,hl,hst]
theorem run_copy_none2 {P:Program}(w:World)(dT sT ty elem:TypeId)(d a:Option Addr)(dLen dCap sLen sCap:Nat)(hu:P.underlying dT=some (.slice elem))(hs:(P.info? elem).map (·.size)=some 2)(hn:Nat.min sLen dLen=0) :
  (Builtin.copy_ #[dT,sT] ty #[.slice d dLen dCap,.slice a sLen sCap]).run P w=.ok (goInt 0) w:=by
 cases hq:P.info? elem with
 | none=>simp[hq] at hs
 | some i =>
   have hl:∀(x:Addr),(loadCells x 0).run P w=.ok #[] w:=fun x=>by simpa using run_loadCells_list (P:=P) w x [] (by simp)
   cases d<;>cases a<;>simp[Builtin.copy_,run_underlying hu,Builtin.lenOf,Builtin.firstCells,sizeOf,typeInfo,hq,hn,storeCells,hl]
theorem set_part3 {w:World}{g:Nat}{s t:ByteArray}{i:Nat}(hi:i<3)(h:w.heap[g]? = some (.cells (part3 s t i) 125 (0,0))) :
  ((w.setCell ⟨g,i*2,none⟩ (.string s)).setCell ⟨g,i*2+1,none⟩ (.string ⟨#[]⟩)).heap[g]? = some (.cells (part3 s t (i+1)) 125 (0,0)):=by
 rw[heap_setCell_same _ g (i*2+1) _ 125 _ (heap_setCell_same w g (i*2) _ 125 _ h)]
 have hh:i=0∨i=1∨i=2:=by omega
 rcases hh with rfl|rfl|rfl<;>rfl
theorem below_set2 {B R:Nat}{a w:World}(h:Below B a w)(hR:B≤R)(i j:Nat)(x y:Value):Below B a ((w.setCell ⟨R,i,none⟩ x).setCell ⟨R,j,none⟩ y):=(h.setCell (p:=⟨R,i,none⟩) hR x).setCell (p:=⟨R,j,none⟩) hR y
theorem part3_cell {w:World}{g:Nat}{s t:ByteArray}{i:Nat}(hi:i<3)(h:w.heap[g]? = some (.cells (part3 s t i) 125 (0,0))) :
  w.cell? ⟨g,i*2,none⟩=some (.string t)∧w.cell? ⟨g,i*2+1,none⟩=some (.string ⟨#[]⟩):=by
 rw[cell_of_row _ _ _ _ _ (0,0) h,cell_of_row _ _ _ _ _ (0,0) h]
 have hh:i=0∨i=1∨i=2:=by omega
 rcases hh with rfl|rfl|rfl<;>exact⟨rfl,rfl⟩
theorem lend_nil (b:Value)(w:World) :
  Calls Tryz.prog 23 #[b,.slice none 0 0] w fun e w' => e=.returned (.slice (some ⟨w.heap.size,0,none⟩) 0 3)∧w'.heap[w.heap.size]? = some (.cells (row3 lentS) 125 (0,0))∧Below w.heap.size w w' := by
 have hmk:=make_ents w
 have hcp:=run_copy_none2 (P:=Tryz.prog) (w.alloc (.cells (row3 ⟨#[]⟩) 125)) 22 22 3 125 (some ⟨w.heap.size,0,none⟩) none 3 3 0 0 Tryz.underlying22 sizeEnt rfl
 have HR0:=hide (heap_alloc_new w (.cells (row3 ⟨#[]⟩) 125))
 have HB0:=hide (below_alloc w (.cells (row3 ⟨#[]⟩) 125))
 generalize (w.alloc (.cells (row3 ⟨#[]⟩) 125))=W0 at *
 go_enter Tryz.func23,Tryz.ntmps23
 go_wp2_with fail
 clear hmk hcp
 go_loopw [6] (fun iv wr=>∃i:Nat,i≤3∧iv=.int .i64 (i:Int)∧wr.heap[w.heap.size]? = some (.cells (part3 lentS ⟨#[]⟩ i) 125 (0,0))∧Below w.heap.size w wr) (fun iv _=>3 - (intOf iv).toNat)
 case atStart=>exact⟨0,by omega,rfl,HR0.out,HB0.out⟩
 case round =>
  obtain⟨i,hi,rfl,hrow,hbw⟩:=hrel
  have HR:=hide hrow
  have HB:=hide hbw
  have i0:(0:Int)≤(i:Int):=by omega
  by_cases h3:i<3
  ·have i1:(i:Int)<3:=by omega
   obtain⟨c1,c2⟩:=part3_cell h3 hrow
   have f1:∀j,wr.frozen? ⟨w.heap.size,j,none⟩=false:=fun j=>frozen_of_row _ _ j _ _ hrow
   clear hrow hbw
   go_wp2
   go_roundw
   case rel=>exact⟨i+1,by omega,by go_num,set_part3 h3 HR.out,below_set2 HB.out (Nat.le_refl _) _ _ _ _⟩
   case measure=>simp[intOf];omega
  ·obtain rfl:i=3:=by omega
   clear hrow hbw
   go_wp2
   go_ret
   exact⟨rfl,HR.out,HB.out⟩
theorem refNew_nil (w:World) :
  Calls Tryz.prog 24 #[.slice none 0 0] w fun e w' => e=.returned (.tuple #[.pointer (some ⟨w.heap.size+1,0,none⟩),.int .i64 0])∧w'.heap[w.heap.size+1]? = some (.cells #[.pointer (some ⟨w.heap.size,0,none⟩),.slice none 0 0] 77 (0,0))∧Below w.heap.size w w' := by
 go_enter Tryz.func24,Tryz.ntmps24
 go_wp2_with fail
 go_loopw [4] (fun iv wr=>iv=.int .i64 0∧wr=w) (fun _ _=>0)
 case atStart=>exact⟨rfl,rfl⟩
 case round =>
  obtain⟨rfl,rfl⟩:=hrel
  go_wp2_with fail
  go_region
  all_goals
   go_wp2
   go_ret2
   refine⟨rfl,?_,((below_alloc wr _).alloc (by simp) _).drew⟩
   have h:=heap_alloc_new (wr.alloc (.cells #[.slice none 0 0,.bool false] 74)) (.cells #[.pointer (some ⟨wr.heap.size,0,none⟩),.slice none 0 0] 77)
   rwa [World.size_alloc] at h
def sl3 (g:Nat):Value:=.slice (some ⟨g,0,none⟩) 3 3
structure Ex (X:Nat→Prop)(w w' : World):Prop where
 os:w'.os=w.os
 tape:w'.tape=w.tape
 output:w'.output=w.output
 size:w.heap.size≤w'.heap.size
 block:∀k,k<w.heap.size→¬X k→w'.heap[k]? = w.heap[k]?
theorem Ex.of_below {X:Nat→Prop}{w w' : World}(h:Below w.heap.size w w'):Ex X w w' := ⟨h.os,h.tape,h.output,h.size,fun k hk _=>h.block k hk⟩
theorem Ex.trans {X:Nat→Prop}{a b c:World}(h:Ex X a b)(h2:Ex X b c):Ex X a c:=⟨h2.os.trans h.os,h2.tape.trans h.tape,h2.output.trans h.output,Nat.le_trans h.size h2.size,fun k hk hx=>(h2.block k (Nat.lt_of_lt_of_le hk h.size) hx).trans (h.block k hk hx)⟩
theorem Ex.mono {X Y:Nat→Prop}{a b:World}(h:Ex X a b)(hxy:∀k,k<a.heap.size→X k→Y k):Ex Y a b:=⟨h.os,h.tape,h.output,h.size,fun k hk hy=>h.block k hk fun hx=>hy (hxy k hk hx)⟩
theorem Ex.set {X:Nat→Prop}{a b:World}(h:Ex X a b){p:Addr}(hp:X p.block∨a.heap.size≤p.block)(v:Value):Ex X a (b.setCell p v) where
 os:=h.os
 tape:=h.tape
 output:=h.output
 size:=by simpa[World.setCell] using h.size
 block:=fun k hk hx=>by
  rw[heap_setCell_other b p k v (fun e=>by rcases hp with hp|hp;exact hx (e ▸ hp);omega)]
  exact h.block k hk hx
theorem infoEs:(Tryz.prog.info? 22).map (fun i=>(i.zero,i.size,i.bytes))=some (some (.slice none 0 0),1,24):=by kernel_rfl
theorem back_nil (b g lo n:Nat)(v:Value)(gs:List Value)(w:World)(hv:w.cell? ⟨b,5,none⟩=some v)(hf:w.frozen? ⟨b,5,none⟩=false)(hg:w.heap[g]? = some (.cells (row3 lentS) 125 (0,0)))(hbg:b≠g)
  (hown:w.ownsRow lo 22 1 v n gs) (hlo:lo≤w.heap.size) (hbv:some b≠v.ownBlock) (hgv:some g≠v.ownBlock) (hn:n≤1000000) :
  Calls Tryz.prog 25 #[.pointer (some ⟨b,0,none⟩),.slice (some ⟨g,0,none⟩) 0 3,.slice none 0 0] w fun e w' => ∃v' W,e=.returned (.bool true)∧w' = W.setCell ⟨b,5,none⟩ v' ∧ Ex (fun k=>k=g∨some k=v.ownBlock) w W∧W.heap[g]? = some (.cells (row3 (markS n)) 125 (0,0))∧W.ownsRow lo 22 1 v' (n+1) (gs++[sl3 g]):=by
 obtain⟨i0,hi,hz0,hz1,hz2⟩:=info_parts infoEs
 obtain⟨va,vc,rfl⟩:∃va vc,v=.slice va n vc:=by
  rcases hown.2 with⟨h1,h2⟩|⟨g,c,cur,h1,_⟩
  ·exact⟨none,0,by rw[h1,h2]⟩
  ·exact⟨_,_,h1⟩
 have HG:=hide hg
 have HO:=hide hown
 clear hg hown
 go_enter Tryz.func25,Tryz.ntmps25
 go_wp2_with fail
 go_loopw [7] (fun iv wr=>iv=.int .i64 0∧wr=w) (fun _ _=>0)
 case atStart=>exact⟨rfl,rfl⟩
 case round =>
  obtain⟨rfl,rfl⟩:=hrel
  go_wp2_with fail
  go_loopw [9] (fun iv wr' => ∃i:Nat,i≤3∧iv=.int .i64 (i:Int)∧wr' = wr) (fun iv _=>3 - (intOf iv).toNat)
  case atStart=>exact⟨0,by omega,rfl,rfl⟩
  case round =>
   obtain⟨i,hi3,rfl,rfl⟩:=hrel
   have j0:(0:Int)≤(i:Int):=by omega
   by_cases h3:i<3
   ·have j1:(i:Int)<3:=by omega
    obtain⟨c1,c2⟩:wr.cell? ⟨g,i*2,none⟩=some (.string lentS)∧wr.cell? ⟨g,i*2+1,none⟩=some (.string ⟨#[]⟩):=by
     rw[cell_of_row _ _ _ _ _ (0,0) HG.out,cell_of_row _ _ _ _ _ (0,0) HG.out]
     have hh:i=0∨i=1∨i=2:=by omega
     rcases hh with rfl|rfl|rfl<;>exact⟨rfl,rfl⟩
    unfold lentS at c1
    go_wp2
    go_roundw
    case rel=>exact⟨i+1,by omega,by go_num,trivial⟩
    case measure=>simp[intOf];omega
   ·obtain rfl:i=3:=by omega
    rename World=>A
    have HM:=hide (fun W=>mark_any n W (by omega))
    have HLt:Hid (g<A.heap.size):=(aGe.1 HG.out).1
    have HBt:Hid (b<A.heap.size):=World.block_lt_of_cell? A _ hv
    go_wp2_with fail
    refine (HM.out _).mono ?_
    rintro e w1 ⟨rfl,hb1⟩
    have HB1:=hide hb1
    clear hb1
    obtain⟨M,hM⟩:∃M,markS n=M:=⟨_,rfl⟩
    rw[hM]
    have HMM:=hide hM
    clear hM
    have HN:Hid ((w1.alloc (.cells #[.string M,.string ⟨#[]⟩] 125)).heap[w1.heap.size]? = some (.cells #[.string M,.string ⟨#[]⟩] 125 (0,0))):=heap_alloc_new _ _
    have HB2:Hid (Below A.heap.size A (w1.alloc (.cells #[.string M,.string ⟨#[]⟩] 125))):=HB1.out.alloc HB1.out.size _
    have HR0:Hid ((w1.alloc (.cells #[.string M,.string ⟨#[]⟩] 125)).heap[g]? = some (.cells (part3 M lentS 0) 125 (0,0))):=(HB2.out.block g HLt.out).trans HG.out
    have hX:Hid (A.heap.size≤w1.heap.size):=HB1.out.size
    go_wp2_with fail
    generalize (w1.alloc (.cells #[.string M,.string ⟨#[]⟩] 125))=W2 at *
    generalize w1.heap.size=X at *
    go_loopw [11] (fun iv W=>∃i:Nat,i≤3∧iv=.int .i64 (i:Int)∧W.heap[g]? = some (.cells (part3 M lentS i) 125 (0,0))∧W.heap[X]? = some (.cells #[.string M,.string ⟨#[]⟩] 125 (0,0))∧Ex (fun k=>k=g) A W) (fun iv _=>3 - (intOf iv).toNat)
    case atStart=>exact⟨0,by omega,rfl,HR0.out,HN.out,Ex.of_below HB2.out⟩
    case round =>
     obtain⟨i,hi3,rfl,hrow,hbox,hex⟩:=hrel
     have HR:=hide hrow
     have HX:=hide hbox
     have HE:=hide hex
     have j0:(0:Int)≤(i:Int):=by omega
     by_cases h3:i<3
     ·have j1:(i:Int)<3:=by omega
      obtain⟨c1,c2⟩:=part3_cell h3 hrow
      have f1:∀j,wr.frozen? ⟨g,j,none⟩=false:=fun j=>frozen_of_row _ _ j _ _ hrow
      have b1:wr.cell? ⟨X,0,none⟩=some (.string M):=cell_of_row _ _ 0 _ _ (0,0) hbox
      have b2:wr.cell? ⟨X,1,none⟩=some (.string ⟨#[]⟩):=cell_of_row _ _ 1 _ _ (0,0) hbox
      clear hrow hbox hex
      go_wp2
      go_roundw
      case rel =>
       refine⟨i+1,by omega,by go_num,set_part3 h3 HR.out,?_,(HE.out.set (p:=⟨g,i*2,none⟩) (.inl rfl) _).set (p:=⟨g,i*2+1,none⟩) (.inl rfl) _⟩
       have hXg:X≠g:=by have:=hX.out;have:=HLt.out;omega
       rw[heap_setCell_other _ _ _ _ (by exact hXg),heap_setCell_other _ _ _ _ (by exact hXg)]
       exact HX.out
      case measure=>simp[intOf];omega
     ·obtain rfl:i=3:=by omega
      have y5:wr.cell? ⟨b,5,none⟩=some (.slice va n vc):=by
       rw[←hv];unfold World.cell?;rw[HE.out.block b HBt.out hbg]
      have f5:wr.frozen? ⟨b,5,none⟩=false:=by
       rw[←hf];unfold World.frozen?;rw[HE.out.block b HBt.out hbg]
      have hown2:wr.ownsRow lo 22 1 (.slice va n vc) n gs:=by
       refine⟨HO.out.1,?_⟩
       rcases HO.out.2 with h|⟨q,c,cur,h1,h2,h3,h4⟩
       ·exact .inl h
       ·refine .inr ⟨q,c,cur,h1,h2,?_,h4⟩
        rw[HE.out.block q (aGe.1 h3).1 (fun e=>hgv (by rw[h1,←e];rfl))]
        exact h3
      have HO2:=hide (hown2.alloc (.cells #[sl3 g] 22))
      have HW2:Hid ((wr.alloc (.cells #[sl3 g] 22)).heap[wr.heap.size]? = some (.cells #[sl3 g] 22 (0,0))):=heap_alloc_new _ _
      clear hrow hbox hex hown2
      have HNews:Hid (∀j u,[sl3 g][j]? = some u→(wr.alloc (.cells #[sl3 g] 22)).cell? ((⟨wr.heap.size,0,none⟩:Addr).add j)=some u):=World.news_of_block HW2.out
      have HLo:Hid (lo≤(wr.alloc (.cells #[sl3 g] 22)).heap.size):=by show _≤_;have:=HE.out.size;simp;omega
      have HY:Hid (∀w4:World,(wr.alloc (.cells #[sl3 g] 22)).grownBy w4 (Value.slice va n vc).ownBlock→w4.cell? ⟨b,5,none⟩=some (.slice va n vc)∧w4.frozen? ⟨b,5,none⟩=false):=fun w4 h=>by
       have h1:=HE.out.size
       have h2:=HBt.out
       have hb4:w4.heap[b]? = wr.heap[b]?:=by rw[h.block b (by simp;omega) hbv,Below.heap_alloc _ _ _ (show b<wr.heap.size by omega)]
       exact⟨(World.cell?_of_block hb4).trans y5,(World.frozen?_of_block hb4).trans f5⟩
      clear HW2
      unfold sl3 at *
      go_wp2_with (at_builtin;go_must (refine wpList_append_lies _ rfl (.tmp 67) (.tmp 69) 46 rfl lo 22 i0 _ 1 24 Tryz.underlying46 hi hz0 hz1 hz2 rfl (by omega) (.slice va n vc) n _ rfl HO2.out ⟨wr.heap.size,0,none⟩ 1 1 [.slice (some ⟨g,0,none⟩) 3 3] rfl rfl HNews.out (by simp[Value.oneCell']) (by omega) (by unfold maxLen;omega) (by omega) HLo.out _ rfl ?_);intro g4 c4 w4 ho4 hg4 hat4 hlt4;go_must (have HX4:=hide (And.intro ho4 hg4));clear ho4 hg4 hat4 hlt4;go_must (obtain⟨y54,f54⟩:=HY.out w4 HX4.out.2))
      go_ret
      refine⟨_,w4,rfl,rfl,?_,?_,HX4.out.1⟩
      ·refine⟨HX4.out.2.os.trans HE.out.os,HX4.out.2.tape.trans HE.out.tape,HX4.out.2.output.trans HE.out.output,?_,fun k hk hx=>?_⟩
       ·have h1:=HX4.out.2.size
        have h2:=HE.out.size
        simp at h1
        omega
       ·have h2:=HE.out.size
        rw[HX4.out.2.block k (by simp;omega) (fun e=>hx (.inr e)),Below.heap_alloc _ _ _ (by omega)]
        exact HE.out.block k hk (fun e=>hx (.inl e))
      ·have h2:=HE.out.size
       have h3:=HLt.out
       rw[HX4.out.2.block g (by simp;omega) hgv,Below.heap_alloc _ _ _ (by omega)]
       rw[HMM.out]
       exact HR.out
def Rds (w:World)(va:Option Addr)(m:Nat):Prop:=∀i,i<m→∃q o g,va=some ⟨q,o,none⟩∧w.cell? ⟨q,o+i,none⟩=some (sl3 g)∧w.heap[g]? = some (.cells (row3 (markS i)) 125 (0,0))
theorem entriesRead_nil (c:Nat)(w:World) :
  Calls Tryz.prog 32 #[.slice none 0 0,.int .i64 (c:Int)] w fun e w' => e=.returned (.bool true)∧w' = w:=by
 go_enter Tryz.func32,Tryz.ntmps32
 go_wp2_with fail
 go_loopw [5] (fun iv wr=>iv=.int .i64 0∧wr=w) (fun _ _=>0)
 case atStart=>exact⟨rfl,rfl⟩
 case round =>
  obtain⟨rfl,rfl⟩:=hrel
  go_wp2
  go_ret
  exact⟨rfl,rfl⟩
theorem entriesRead_one (va:Option Addr)(m vc:Nat)(w:World)(h:Rds w va m)(hm:m≤1000000) :
  Calls Tryz.prog 32 #[.slice va m vc,.int .i64 1] w fun e w' => e=.returned (.bool true)∧Below w.heap.size w w' := by
 have HD:=hide h
 clear h
 go_enter Tryz.func32,Tryz.ntmps32
 go_wp2_with fail
 go_loopw [5] (fun iv wr=>∃i:Nat,i≤m∧iv=.int .i64 (i:Int)∧Below w.heap.size w wr) (fun iv _=>m - (intOf iv).toNat)
 case atStart=>exact⟨0,by omega,rfl,Below.refl _ _⟩
 case round =>
  obtain⟨i,him,rfl,hbw⟩:=hrel
  have HB:=hide hbw
  clear hbw
  have j0:(0:Int)≤(i:Int):=by omega
  by_cases hil:i<m
  ·have j1:(i:Int)<(m:Int):=by omega
   obtain⟨q,o,g,rfl,hq,hg⟩:=HD.out i hil
   have HK:Hid (∀W,Below w.heap.size w W→W.cell? ⟨q,o+i,none⟩=some (sl3 g)∧W.heap[g]? = some (.cells (row3 (markS i)) 125 (0,0))):=fun W hW =>
    ⟨(hW.cell (p:=⟨q,o+i,none⟩) (World.block_lt_of_cell? w _ hq)).trans hq,(hW.block g (aGe.1 hg).1).trans hg⟩
   clear hq hg
   have HM:=hide (fun W=>mark_any i W (by omega))
   go_wp2_with fail
   refine (HM.out _).mono ?_
   rintro e w1 ⟨rfl,hb1⟩
   have HB1:Hid (Below w.heap.size w w1):=HB.out.trans (hb1.mono HB.out.size)
   clear hb1
   obtain⟨M,hM⟩:∃M,markS i=M:=⟨_,rfl⟩
   rw[hM] at HK ⊢
   clear hM HM
   have HN:Hid ((w1.alloc (.cells #[.string M,.string ⟨#[]⟩] 125)).heap[w1.heap.size]? = some (.cells #[.string M,.string ⟨#[]⟩] 125 (0,0))):=heap_alloc_new _ _
   have HB2:Hid (Below w.heap.size w (w1.alloc (.cells #[.string M,.string ⟨#[]⟩] 125))):=HB1.out.alloc HB1.out.size _
   go_wp2_with fail
   generalize (w1.alloc (.cells #[.string M,.string ⟨#[]⟩] 125))=W2 at *
   generalize w1.heap.size=X at *
   clear HB HB1
   go_loopw [7] (fun kv W=>∃k:Nat,k≤3∧kv=.int .i64 (k:Int)∧Below W2.heap.size W2 W) (fun kv _=>3 - (intOf kv).toNat)
   case atStart=>exact⟨0,by omega,rfl,Below.refl _ _⟩
   case round =>
    obtain⟨k,hk3,rfl,hbk⟩:=hrel
    have HBK:=hide hbk
    have HBW:Hid (Below w.heap.size w wr):=HB2.out.trans (hbk.mono HB2.out.size)
    obtain⟨y1,hrow⟩:=HK.out wr HBW.out
    unfold sl3 at y1
    have hbox:wr.heap[X]? = some (.cells #[.string M,.string ⟨#[]⟩] 125 (0,0)):=(hbk.block X (aGe.1 HN.out).1).trans HN.out
    have b1:wr.cell? ⟨X,0,none⟩=some (.string M):=cell_of_row _ _ 0 _ _ (0,0) hbox
    have b2:wr.cell? ⟨X,1,none⟩=some (.string ⟨#[]⟩):=cell_of_row _ _ 1 _ _ (0,0) hbox
    have k0:(0:Int)≤(k:Int):=by omega
    clear hbk hbox
    by_cases h3:k<3
    ·have k1:(k:Int)<3:=by omega
     obtain⟨c1,c2⟩:wr.cell? ⟨g,k*2,none⟩=some (.string M)∧wr.cell? ⟨g,k*2+1,none⟩=some (.string ⟨#[]⟩):=by
      rw[cell_of_row _ _ _ _ _ (0,0) hrow,cell_of_row _ _ _ _ _ (0,0) hrow]
      have hh:k=0∨k=1∨k=2:=by omega
      rcases hh with rfl|rfl|rfl<;>exact⟨rfl,rfl⟩
     clear hrow
     go_wp2_with fail
     go_region
     all_goals
      go_wp2
      go_roundw
      case rel=>exact⟨k+1,by omega,by go_num,HBK.out.drew⟩
      case measure=>simp[intOf];omega
    ·obtain rfl:k=3:=by omega
     clear hrow
     go_wp2
     go_roundw
     case rel=>exact⟨i+1,by omega,by go_num,HBW.out⟩
     case measure=>simp[intOf];omega
  ·obtain rfl:i=m:=by omega
   go_wp2
   go_ret
   exact⟨rfl,HB.out⟩
theorem small_nil (b:Nat)(w:World)(h0:w.cell? ⟨b,0,none⟩=some (.slice none 0 0))(h1:w.cell? ⟨b,1,none⟩=some (.slice none 0 0)) :
  Calls Tryz.prog 31 #[.pointer (some ⟨b,0,none⟩)] w fun e w' => e=.returned (.bool true)∧w' = w:=by
 go_enter Tryz.func31,Tryz.ntmps31
 go_wp2_with fail
 go_loopw [3] (fun iv wr=>iv=.int .i64 0∧wr=w) (fun _ _=>0)
 case atStart=>exact⟨rfl,rfl⟩
 case round =>
  obtain⟨rfl,rfl⟩:=hrel
  go_wp2_with fail
  rename World=>A
  go_loopw [5] (fun iv wr=>iv=.int .i64 0∧wr=A) (fun _ _=>0)
  case atStart=>exact⟨rfl,rfl⟩
  case round =>
   obtain⟨rfl,rfl⟩:=hrel
   go_wp2
   go_ret
   exact⟨rfl,rfl⟩
theorem looks_any (b:Nat)(va:Option Addr)(m vc:Nat)(w:World)(h:∀i,i<5→w.cell? ⟨b,i,none⟩=some (.slice none 0 0))(h5:w.cell? ⟨b,5,none⟩=some (.slice va m vc))(hr:Rds w va m)(hm:m≤1000000) :
  Calls Tryz.prog 15 #[.pointer (some ⟨b,0,none⟩)] w fun e w' => e=.returned (.bool true)∧Below w.heap.size w w' := by
 have x0:=h 0 (by omega)
 have x1:=h 1 (by omega)
 have x2:=h 2 (by omega)
 have x3:=h 3 (by omega)
 have x4:=h 4 (by omega)
 have HS:=hide (small_nil b w x0 x1)
 have HN:=hide (fun W=>entriesRead_nil 4 W)
 have HE:=hide (entriesRead_one va m vc w hr hm)
 have hlt:b<w.heap.size:=World.block_lt_of_cell? w _ x0
 have HX:Hid (∀W,Below w.heap.size w W→W.cell? ⟨b,2,none⟩=some (.slice none 0 0)∧W.cell? ⟨b,3,none⟩=some (.slice none 0 0)):=fun W hW=>⟨(hW.cell (p:=⟨b,2,none⟩) hlt).trans x2,(hW.cell (p:=⟨b,3,none⟩) hlt).trans x3⟩
 clear h hr x0 x1 x2 x3
 go_enter Tryz.func15,Tryz.ntmps15
 go_wp2_with fail
 refine HS.out.mono ?_
 rintro e w1 ⟨rfl,rfl⟩
 go_wp2_with fail
 refine (HN.out _).mono ?_
 rintro e w2 ⟨rfl,rfl⟩
 go_wp2_with fail
 refine HE.out.mono ?_
 rintro e w3 ⟨rfl,hb3⟩
 have HB:=hide hb3
 obtain⟨x2,x3⟩:=HX.out w3 hb3
 clear hb3
 go_wp2_with fail
 go_loopw [6] (fun iv wr=>iv=.int .i64 0∧wr=w3) (fun _ _=>0)
 case atStart=>exact⟨rfl,rfl⟩
 case round =>
  obtain⟨rfl,rfl⟩:=hrel
  rename World=>A
  go_wp2_with fail
  go_loopw [9] (fun iv wr=>iv=.int .i64 0∧wr=A) (fun _ _=>0)
  case atStart=>exact⟨rfl,rfl⟩
  case round =>
   obtain⟨rfl,rfl⟩:=hrel
   go_wp2
   go_ret
   exact⟨rfl,HB.out⟩
theorem ownsRow_ex {X:Nat→Prop}{w w' : World}{lo n sz:Nat}{e:TypeId}{v:Value}{xs:List Value}(h:w.ownsRow lo e sz v n xs)(hx:Ex X w w')(hv:∀q,v.ownBlock=some q→¬X q):w'.ownsRow lo e sz v n xs:=by
 refine⟨h.1,?_⟩
 rcases h.2 with h|⟨q,c,cur,h1,h2,h3,h4⟩
 ·exact .inl h
 ·refine .inr ⟨q,c,cur,h1,h2,?_,h4⟩
  rw[hx.block q (aGe.1 h3).1 (hv q (by rw[h1];rfl))]
  exact h3
theorem ownsRow_type {w:World}{lo n sz:Nat}{e:TypeId}{v:Value}{xs:List Value}(h:w.ownsRow lo e sz v n xs)(q:Nat)(hq:v.ownBlock=some q):lo≤q∧∃cur,w.heap[q]? = some (.cells cur e (0,0)):=by
 rcases h.2 with⟨h1,_⟩|⟨q', c,cur,h1,h2,h3,h4⟩
 ·rw[h1] at hq;cases hq
 ·rw[h1] at hq
  obtain rfl:q' = q:=by simpa[Value.ownBlock] using hq
  exact⟨h2,cur,h3⟩
theorem ownsRow_slice {w:World}{lo n sz:Nat}{e:TypeId}{v:Value}{xs:List Value}(h:w.ownsRow lo e sz v n xs):∃va vc,v=.slice va n vc:=by
 rcases h.2 with⟨h1,h2⟩|⟨g,c,cur,h1,_⟩
 ·exact⟨none,0,by rw[h1,h2]⟩
 ·exact⟨_,_,h1⟩
def wCells (v x0 r0 x1 r1 rts:Value):Array Value:=#[.slice none 0 0,.slice none 0 0,.slice none 0 0,.slice none 0 0,.slice none 0 0,v,x0,r0,x1,r1,rts,.slice none 0 0,.string ⟨#[]⟩,.slice none 0 0,.slice none 0 0]
structure Bk (w:World)(B lo:Nat)(x0 r0 x1 r1 rts:Value)(gl:List Nat):Prop where
 box:∃v,w.heap[B]? = some (.cells (wCells v x0 r0 x1 r1 rts) 55 (0,0))∧w.ownsRow lo 22 1 v gl.length (gl.map sl3)
 rows:∀i (h:i<gl.length),w.heap[gl[i]]? = some (.cells (row3 (markS i)) 125 (0,0))
def Strange (w:World)(X:Nat→Prop):Prop:=∀k cs t fr,X k→w.heap[k]? = some (.cells cs t fr)→t≠55∧t≠125∧t≠22
theorem Bk.ex {X:Nat→Prop}{w w' : World}{B lo:Nat}{x0 r0 x1 r1 rts:Value}{gl:List Nat}(h:Bk w B lo x0 r0 x1 r1 rts gl)(hx:Ex X w w')(hs:Strange w X):Bk w' B lo x0 r0 x1 r1 rts gl:=by
 obtain⟨v,h1,h2⟩:=h.box
 refine⟨⟨v,?_,ownsRow_ex h2 hx fun q hq hX=>?_⟩,fun i hi=>?_⟩
 ·rw[hx.block B (aGe.1 h1).1 (fun hX=>(hs B _ _ _ hX h1).1 rfl)];exact h1
 ·obtain⟨_,cur,hc⟩:=ownsRow_type h2 q hq
  exact (hs q _ _ _ hX hc).2.2 rfl
 ·have h3:=h.rows i hi
  rw[hx.block _ (aGe.1 h3).1 (fun hX=>(hs _ _ _ _ hX h3).2.1 rfl)];exact h3
theorem Bk.keep {w w' : World}{B lo:Nat}{x0 r0 x1 r1 rts:Value}{gl:List Nat}(h:Bk w B lo x0 r0 x1 r1 rts gl)(hb:Below w.heap.size w w'):Bk w' B lo x0 r0 x1 r1 rts gl :=
 h.ex (X:=fun _=>False) (Ex.of_below hb) (fun _ _ _ _ h=>h.elim)
theorem Bk.rds {w:World}{B lo:Nat}{x0 r0 x1 r1 rts:Value}{gl:List Nat}(h:Bk w B lo x0 r0 x1 r1 rts gl):∃va vc,w.heap[B]? = some (.cells (wCells (.slice va gl.length vc) x0 r0 x1 r1 rts) 55 (0,0))∧Rds w va gl.length:=by
 obtain⟨v,h1,h2⟩:=h.box
 obtain⟨va,vc,rfl⟩:=ownsRow_slice h2
 refine⟨va,vc,h1,fun i hi=>?_⟩
 rcases h2.2 with⟨k1,k2⟩|⟨q,c,cur,k1,k2,k3,k4⟩
 ·omega
 ·obtain⟨rfl,_⟩:va=some ⟨q,0,none⟩∧vc=c:=by simpa using k1
  have hc:=h2.cells (g:=q) rfl i (sl3 gl[i]) (by simp[hi])
  rw[addr_add] at hc
  exact⟨q,0,gl[i],rfl,hc,h.rows i hi⟩
theorem Bk.looks {w:World}{B lo:Nat}{x0 r0 x1 r1 rts:Value}{gl:List Nat}(h:Bk w B lo x0 r0 x1 r1 rts gl)(hm:gl.length≤1000000) :
  Calls Tryz.prog 15 #[.pointer (some ⟨B,0,none⟩)] w fun e w' => e=.returned (.bool true)∧Below w.heap.size w w' := by
 obtain⟨va,vc,h1,h2⟩:=h.rds
 refine looks_any B va gl.length vc w (fun i hi=>?_) (cell_of_row _ _ 5 _ _ (0,0) h1) h2 hm
 rw[cell_of_row _ _ i _ _ (0,0) h1]
 have hh:i=0∨i=1∨i=2∨i=3∨i=4:=by omega
 rcases hh with rfl|rfl|rfl|rfl|rfl<;>rfl
end Go.Proofs.YthdjmldddjljfaaGreatDoor
