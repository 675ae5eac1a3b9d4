/-
  OUR OWN.
-/
import Derived.Test.YthdjmldddjljfaaGreatDoorProg
import Derived.Test.YthdjmldddjljfaaGreatDoorG05
import Derived.Test.YthdjmldddjljfaaGreatDoorG01
import Derived.BigQuiet
import Derived.Deep.QuietTactic
import Derived.Deep.RegionHeld3
import Derived.Deep.DrawnRows
import Derived.Lib.SliceRun
set_option maxHeartbeats 8000000
set_option maxRecDepth 20000
namespace Go.Proofs.YthdjmldddjljfaaGreatDoor
open Go.RowKit
attribute [local go_sem ↓] Go.wp_at_zero Go.wp_at_succ
def numV (n:Nat):Value:=.int .i64 (n:Int)
structure Nums (w:World)(ao:Option Addr)(p:List Nat):Prop where
 spot:∀a,ao=some a→a.spot=none
 at' : ∀k,k<p.length→∃b off,ao=some ⟨b,off,none⟩∧w.cell? ⟨b,off+k,none⟩=some (.int .i64 ((p.getD k 0:Nat):Int))
theorem Nums.keep {w w' : World}{ao:Option Addr}{p:List Nat}(h:Nums w ao p){B:Nat}(hb:Below B w w')(hB:w.heap.size≤B):Nums w' ao p:=⟨h.spot,fun k hk=>by
 obtain⟨b,off,h1,h2⟩:=h.at' k hk
 have hl:=World.block_lt_of_cell? w _ h2
 exact⟨b,off,h1,(World.cell?_of_block (w:=w) (w' := w') (a:=⟨b,off+k,none⟩) (hb.block b (Nat.lt_of_lt_of_le hl hB))).trans h2⟩⟩
theorem Nums.nil {w:World}{ao:Option Addr}(h:∀a,ao=some a→a.spot=none):Nums w ao []:=⟨h,fun k hk=>by simp at hk⟩
theorem Nums.own {w:World}{base e n c:Nat}{ao:Option Addr}{p:List Nat}(h:w.ownsRow base e 1 (.slice ao n c) n (p.map numV)):Nums w ao p:=by
 refine⟨fun a ha=>?_,fun k hk=>?_⟩
 ·rcases h.2 with⟨h1,_⟩|⟨g,c', cur,hh,_⟩
  ·injection h1 with h1 _ _;rw[ha] at h1;cases h1
  ·injection hh with hh1 _ _;rw[ha] at hh1;injection hh1 with hh1;rw[hh1]
 rcases h.2 with⟨_,h0⟩|⟨g,c', cur,hh,_⟩
 ·have:=h.1
  simp at this;omega
 ·injection hh with hh1 _ _
  have h2:=h.cells (g:=g) (by rw[hh1];rfl) k (numV (p.getD k 0)) (by simp[List.getD_eq_getElem?_getD,hk])
  rw[addr_add] at h2
  exact⟨g,0,hh1,h2⟩
theorem Nums.reads {w:World}{ao:Option Addr}{p:List Nat}(h:Nums w ao p)(cap:Nat)(h0:ao=none→p=[]∧cap=0):Reads w (.slice ao p.length cap) p.length (p.map numV):=by
 cases ao with
 | none =>
   obtain⟨rfl,rfl⟩:=h0 rfl
   exact .inl ⟨rfl,rfl,rfl⟩
 | some a =>
   refine .inr ⟨a,cap,rfl,fun j u hu=>?_⟩
   have hj:j<p.length:=by have:=(List.getElem?_eq_some_iff.1 hu).1;simpa using this
   obtain⟨b,off,h1,h2⟩:=h.at' j hj
   obtain rfl:a=⟨b,off,none⟩:=by simpa using h1
   rw[addr_add,h2]
   have e:(p.map numV)[j]? = some (numV (p.getD j 0)):=by simp[List.getD_eq_getElem?_getD,hj]
   rw[e] at hu
   exact hu
theorem Nums.drop {w:World}{b off:Nat}{p:List Nat}(h:Nums w (some ⟨b,off,none⟩) p)(n:Nat):Nums w (some ⟨b,off+n,none⟩) (p.drop n):=⟨fun a e=>by injection e with e;rw[←e],fun k hk=>by
 rw[List.length_drop] at hk
 obtain⟨b', off', h1,h2⟩:=h.at' (n+k) (by omega)
 obtain⟨rfl,rfl⟩:b=b' ∧ off=off' := by simpa using h1
 refine⟨b,off+n,rfl,?_⟩
 rw[Nat.add_assoc,h2]
 simp[List.getD_eq_getElem?_getD,List.getElem?_drop]⟩
theorem Nums.take {w:World}{ao:Option Addr}{p:List Nat}(h:Nums w ao p)(n:Nat):Nums w ao (p.take n):=⟨h.spot,fun k hk=>by
 rw[List.length_take] at hk
 obtain⟨b,off,h1,h2⟩:=h.at' k (by omega)
 refine⟨b,off,h1,?_⟩
 rw[h2]
 have hk2:k<n:=by omega
 simp[List.getD_eq_getElem?_getD,hk2]⟩
def ptr (b:Nat):Value:=.pointer (some ⟨b,0,none⟩)
def brCell (us:Nat→Value)(hs:Nat→ByteArray)(x:ByteArray)(j:Nat):Value:=if j=32 then .string x else if j % 2=0 then us (j / 2) else .string (hs (j / 2))
def brCells (us:Nat→Value)(hs:Nat→ByteArray)(x:ByteArray):Array Value:=((List.range 33).map (brCell us hs x)).toArray
theorem brCells_size (us:Nat→Value)(hs:Nat→ByteArray)(x:ByteArray):(brCells us hs x).size=33:=by simp[brCells]
theorem brCells_get (us:Nat→Value)(hs:Nat→ByteArray)(x:ByteArray)(j:Nat)(h:j<33):(brCells us hs x)[j]? = some (brCell us hs x j):=by simp[brCells,h]
def updV {α:Type}(f:Nat→α)(i:Nat)(x:α):Nat→α:=fun j=>if j=i then x else f j
theorem brCells_none (us:Nat→Value)(hs:Nat→ByteArray)(x:ByteArray)(j:Nat)(h:33≤j):(brCells us hs x)[j]? = none:=Array.getElem?_eq_none (by rw[brCells_size];exact h)
theorem brCells_set (us:Nat→Value)(hs:Nat→ByteArray)(x:ByteArray)(i:Nat)(hi:i<16)(u:Value)(h:ByteArray):((brCells us hs x).setIfInBounds (i*2) u).setIfInBounds (i*2+1) (.string h)=brCells (updV us i u) (updV hs i h) x:=by
 apply Array.ext_getElem?
 intro j
 by_cases hj:j<33
 ·rw[brCells_get _ _ _ j hj,Array.getElem?_setIfInBounds,Array.size_setIfInBounds,brCells_size]
  by_cases c1:i*2+1=j
  ·rw[if_pos c1,if_pos (by omega)]
   unfold brCell updV
   rw[if_neg (by omega),if_neg (by omega),if_pos (by omega)]
  ·rw[if_neg c1,Array.getElem?_setIfInBounds,brCells_size]
   by_cases c2:i*2=j
   ·rw[if_pos c2,if_pos (by omega)]
    unfold brCell updV
    rw[if_neg (by omega),if_pos (by omega),if_pos (by omega)]
   ·rw[if_neg c2,brCells_get _ _ _ j hj]
    unfold brCell updV
    by_cases c3:j=32
    ·rw[if_pos c3,if_pos c3]
    ·rw[if_neg c3,if_neg c3]
     by_cases c4:j % 2=0
     ·rw[if_pos c4,if_pos c4,if_neg (by omega)]
     ·rw[if_neg c4,if_neg c4,if_neg (by omega)]
 ·rw[brCells_none _ _ _ j (by omega),Array.getElem?_eq_none (by simp only[Array.size_setIfInBounds,brCells_size];omega)]
theorem brCells_val (us:Nat→Value)(hs:Nat→ByteArray)(x y:ByteArray):(brCells us hs x).setIfInBounds 32 (.string y)=brCells us hs y:=by
 apply Array.ext_getElem?
 intro j
 by_cases hj:j<33
 ·rw[brCells_get _ _ _ j hj,Array.getElem?_setIfInBounds,brCells_size]
  by_cases c1:32=j
  ·rw[if_pos c1,if_pos (by omega)]
   unfold brCell
   rw[if_pos c1.symm]
  ·rw[if_neg c1,brCells_get _ _ _ j hj]
   have c2:¬j=32:=fun e=>c1 e.symm
   unfold brCell
   simp only[c2,if_false]
 ·rw[brCells_none _ _ _ j (by omega),Array.getElem?_eq_none (by simp only[Array.size_setIfInBounds,brCells_size];omega)]
theorem br_ref {w:World}{b:Nat}{us:Nat→Value}{hs:Nat→ByteArray}{x:ByteArray}(h:w.heap[b]? = some (.cells (brCells us hs x) 285 (0,0)))(i:Nat)(hi:i<16):w.cell? ⟨b,i*2,none⟩=some (us i)∧w.cell? ⟨b,i*2+1,none⟩=some (.string (hs i)):=by
 constructor
 ·rw[cell_of_row w b _ _ _ (0,0) h,brCells_get _ _ _ _ (by omega)]
  unfold brCell
  rw[if_neg (by omega),if_pos (by omega),show i*2 / 2=i from by omega]
 ·rw[cell_of_row w b _ _ _ (0,0) h,brCells_get _ _ _ _ (by omega)]
  unfold brCell
  rw[if_neg (by omega),if_neg (by omega),show (i*2+1) / 2=i from by omega]
theorem br_val {w:World}{b:Nat}{us:Nat→Value}{hs:Nat→ByteArray}{x:ByteArray}(h:w.heap[b]? = some (.cells (brCells us hs x) 285 (0,0))):w.cell? ⟨b,32,none⟩=some (.string x):=by
 rw[cell_of_row w b _ _ _ (0,0) h,brCells_get _ _ _ _ (by omega)]
 rfl
def PathIn (ok:Nat→Prop)(ao:Option Addr)(p:List Nat):Prop:=∀a,ao=some a→p≠[]→ok a.block
theorem Nums.lt {w:World}{ao:Option Addr}{p:List Nat}(h:Nums w ao p):PathIn (fun b=>b<w.heap.size) ao p:=fun a e hn=>by
 obtain⟨b,off,h1,h2⟩:=h.at' 0 (List.length_pos_iff.2 hn)
 obtain rfl:a=⟨b,off,none⟩:=by rw[e] at h1;simpa using h1
 exact World.block_lt_of_cell? w _ h2
theorem Nums.keepIn {w w' : World}{ao:Option Addr}{p:List Nat}{ok:Nat→Prop}(h:Nums w ao p)(hp:PathIn ok ao p)(hk:∀b,ok b→b<w.heap.size→w'.heap[b]? = w.heap[b]?):Nums w' ao p:=⟨h.spot,fun k hk' => by
 obtain⟨b,off,h1,h2⟩:=h.at' k hk'
 have hl:=World.block_lt_of_cell? w _ h2
 exact⟨b,off,h1,(World.cell?_of_block (w:=w) (w' := w') (a:=⟨b,off+k,none⟩) (hk b (hp _ h1 (fun e=>by rw[e] at hk';simp at hk')) hl)).trans h2⟩⟩
def NdAt (Hk:Nd→ByteArray→Prop)(ok:Nat→Prop)(w:World):Nd→Value→Prop
 | .nil=>fun v=>v=.nilIface
 | .leaf p x=>fun v=>∃b ao cap,v=.iface 153 (ptr b)∧ok b∧PathIn ok ao p∧w.heap[b]? = some (.cells #[Value.slice ao p.length cap,.string x] 199 (0,0))∧Nums w ao p∧(ao=none→cap=0)∧p.length≤cap
 | .ext p n=>fun v=>∃b ao cap u h,v=.iface 250 (ptr b)∧ok b∧PathIn ok ao p∧w.heap[b]? = some (.cells #[.slice ao p.length cap,u,.string h] 282 (0,0))∧Nums w ao p∧(ao=none→cap=0)∧p.length≤cap∧NdAt Hk ok w n u∧(h=e0∨Hk n h)
 | .br c x=>fun v=>∃b us hs,v=.iface 252 (ptr b)∧ok b∧w.heap[b]? = some (.cells (brCells us hs x) 285 (0,0))∧∀i,i<16→NdAt Hk ok w (c i) (us i)∧(hs i=e0∨(c i≠.nil∧Hk (c i) (hs i)))
theorem NdAt.keepIn {Hk:Nd→ByteArray→Prop}{ok:Nat→Prop}{w w' : World}(hk:∀b,ok b→b<w.heap.size→w'.heap[b]? = w.heap[b]?):∀(n:Nd) (v:Value),NdAt Hk ok w n v→NdAt Hk ok w' n v
 | .nil,_,h=>h
 | .leaf _ _,_,⟨b,ao,cap,h1,o1,o2,h2,h3,h4⟩=>⟨b,ao,cap,h1,o1,o2,by rw[hk b o1 (aGe.1 h2).1];exact h2,h3.keepIn o2 hk,h4⟩
 | .ext _ n,_,⟨b,ao,cap,u,h,h1,o1,o2,h2,h3,h4,h5,h6,h7⟩=>⟨b,ao,cap,u,h,h1,o1,o2,by rw[hk b o1 (aGe.1 h2).1];exact h2,h3.keepIn o2 hk,h4,h5,NdAt.keepIn hk n u h6,h7⟩
 | .br c _,_,⟨b,us,hs,h1,o1,h2,h3⟩=>⟨b,us,hs,h1,o1,by rw[hk b o1 (aGe.1 h2).1];exact h2,fun i hi=>⟨NdAt.keepIn hk (c i) (us i) (h3 i hi).1,(h3 i hi).2⟩⟩
theorem NdAt.mono {Hk:Nd→ByteArray→Prop}{ok ok' : Nat→Prop}{w:World}(hk:∀b,ok b→ok' b):∀(n:Nd) (v:Value),NdAt Hk ok w n v→NdAt Hk ok' w n v
 | .nil,_,h=>h
 | .leaf _ _,_,⟨b,ao,cap,h1,o1,o2,h2⟩=>⟨b,ao,cap,h1,hk b o1,fun a e hn=>hk _ (o2 a e hn),h2⟩
 | .ext _ n,_,⟨b,ao,cap,u,h,h1,o1,o2,h2,h3,h4,h5,h6,h7⟩=>⟨b,ao,cap,u,h,h1,hk b o1,fun a e hn=>hk _ (o2 a e hn),h2,h3,h4,h5,NdAt.mono hk n u h6,h7⟩
 | .br c _,_,⟨b,us,hs,h1,o1,h2,h3⟩=>⟨b,us,hs,h1,hk b o1,h2,fun i hi=>⟨NdAt.mono hk (c i) (us i) (h3 i hi).1,(h3 i hi).2⟩⟩
theorem NdAt.keep {Hk:Nd→ByteArray→Prop}{ok:Nat→Prop}{w w' : World}{n:Nd}{v:Value}(h:NdAt Hk ok w n v)(hb:Below w.heap.size w w'):NdAt Hk ok w' n v:=NdAt.keepIn (fun b _ hl=>hb.block b hl) n v h
theorem NdAt.lt {Hk:Nd→ByteArray→Prop}{ok:Nat→Prop}{w:World}:∀(n:Nd) (v:Value),NdAt Hk ok w n v→NdAt Hk (fun b=>b<w.heap.size) w n v
 | .nil,_,h=>h
 | .leaf _ _,_,⟨b,ao,cap,h1,_,_,h2,h3,h4⟩=>⟨b,ao,cap,h1,(aGe.1 h2).1,Nums.lt h3,h2,h3,h4⟩
 | .ext _ n,_,⟨b,ao,cap,u,h,h1,_,_,h2,h3,h4,h5,h6,h7⟩=>⟨b,ao,cap,u,h,h1,(aGe.1 h2).1,Nums.lt h3,h2,h3,h4,h5,NdAt.lt n u h6,h7⟩
 | .br c _,_,⟨b,us,hs,h1,_,h2,h3⟩=>⟨b,us,hs,h1,(aGe.1 h2).1,h2,fun i hi=>⟨NdAt.lt (c i) (us i) (h3 i hi).1,(h3 i hi).2⟩⟩
theorem NdAt.some {Hk:Nd→ByteArray→Prop}{ok:Nat→Prop}{w:World}{n:Nd}{v:Value}(h:NdAt Hk ok w n v)(hn:n≠.nil):∃t b,v=.iface t (ptr b):=by
 cases n with
 | nil=>exact absurd rfl hn
 | leaf p x=>obtain⟨b,_,_,h1,_⟩:=h;exact⟨_,b,h1⟩
 | ext p m=>obtain⟨b,_,_,_,_,h1,_⟩:=h;exact⟨_,b,h1⟩
 | br c x=>obtain⟨b,_,_,h1,_⟩:=h;exact⟨_,b,h1⟩
theorem isEmpty_yes (b off:Nat)(w:World)(h0:w.cell? ⟨b,off,none⟩=some .nilIface)(h1:w.cell? ⟨b,off+1,none⟩=some (.string e0)) :
  Calls Tryz.prog 80 #[.pointer (some ⟨b,off,none⟩)] w fun e w' => e=.returned (.bool true)∧w' = w:=by
 go_enter Tryz.func80,Tryz.ntmps80
 go_wp2
 go_ret
 exact⟨rfl,rfl⟩
theorem isEmpty_no (b off:Nat)(t:TypeId)(x:Nat)(w:World)(h0:w.cell? ⟨b,off,none⟩=some (.iface t (ptr x))) :
  Calls Tryz.prog 80 #[.pointer (some ⟨b,off,none⟩)] w fun e w' => e=.returned (.bool false)∧w' = w:=by
 go_enter Tryz.func80,Tryz.ntmps80
 go_wp2
 go_ret
 exact⟨rfl,rfl⟩
def isNd (v:Value):Prop:=v=.nilIface∨∃t b,v=.iface t (ptr b)
theorem NdAt.isNd {Hk:Nd→ByteArray→Prop}{ok:Nat→Prop}{w:World}{n:Nd}{v:Value}(h:NdAt Hk ok w n v):isNd v:=by
 cases n with
 | nil=>exact .inl h
 | leaf p x=>obtain⟨b,_,_,h1,_⟩:=h;exact .inr ⟨_,b,h1⟩
 | ext p m=>obtain⟨b,_,_,_,_,h1,_⟩:=h;exact .inr ⟨_,b,h1⟩
 | br c x=>obtain⟨b,_,_,h1,_⟩:=h;exact .inr ⟨_,b,h1⟩
theorem infoI:(Tryz.prog.info? 3).map (fun i=>(i.zero,i.size,i.bytes))=some (some (.int .i64 0),1,8):=by kernel_rfl
def NewPath (B:Nat)(p:List Nat)(w:World)(e:Ending)(w' : World):Prop:=∃ao cap,e=.returned (.slice ao p.length cap)∧PathIn (fun b=>B≤b) ao p∧Nums w' ao p∧(ao=none→cap=0)∧p.length≤cap∧Below B w w'
theorem own_path {w:World}{base e n:Nat}{v:Value}{p:List Nat}(h:w.ownsRow base e 1 v n (p.map numV))(hn:n=p.length):∃ao cap,v=.slice ao p.length cap∧PathIn (fun b=>base≤b) ao p∧Nums w ao p∧(ao=none→cap=0)∧p.length≤cap:=by
 subst hn
 have h' := h
 rcases h.2 with⟨rfl,h0⟩|⟨g,c,cur,rfl,hg,_,h1,_⟩
 ·have hp:p=[]:=List.length_eq_zero_iff.1 h0
  subst hp
  exact⟨none,0,rfl,(fun a e=>by cases e),Nums.nil (fun a e=>by cases e),fun _=>rfl,Nat.le_refl _⟩
 ·exact⟨_,c,rfl,(fun a e _=>by cases e;exact hg),Nums.own h', (fun h=>by cases h),h1⟩
theorem qI (w:World)(a:Option Addr)(n c n' c' : Nat):(binOp .eql 80 (.slice a n c) (.slice none n' c')).run Tryz.prog w=.ok (.bool a.isNone) w:=Lib.run_eql_slice_nil w _ _ a n c n' c' Tryz.underlying80
theorem cloneI_any (ao:Option Addr)(cap:Nat)(p:List Nat)(w:World)(hp:Nums w ao p)(h0:ao=none→cap=0)(hc:p.length≤cap)(hm:p.length≤1000) :
  Calls Tryz.prog 112 #[.slice ao p.length cap] w fun e w' => NewPath w.heap.size p w e w' := by
 have q47:=qI
 cases ao with
 | none =>
   obtain rfl:=h0 rfl
   obtain rfl:p=[]:=List.length_eq_zero_iff.1 (by omega)
   go_enter Tryz.func112,Tryz.ntmps112
   go_wp2
   go_ret
   exact⟨none,0,rfl,(fun a e=>by cases e),Nums.nil (fun a e=>by cases e),fun _=>rfl,Nat.le_refl _,Below.refl _ _⟩
 | some a =>
   obtain⟨i0,hi,hz0,hz1,hz2⟩:=info_parts infoI
   have HR:Hid (Reads (w.alloc (.cells #[] 3)) (.slice (some a) p.length cap) p.length (p.map numV)):=(hp.reads cap (fun h=>by cases h)).keep (below_alloc _ _)
   have HO:Hid ((w.alloc (.cells #[] 3)).ownsRow w.heap.size 3 1 (.slice (some ⟨w.heap.size,0,none⟩) 0 0) 0 []):=World.ownsRow_made (base:=w.heap.size) (e:=3) (size:=1) w #[] 0 (Nat.le_refl _) (by unfold maxLen;omega) rfl
   have HM:=hide hm
   clear hp hm hc h0
   go_enter Tryz.func112,Tryz.ntmps112
   go_wp2_with (at_builtin;go_must (refine wpList_append_reads rfl (.tmp 5) (.tmp 6) 80 rfl w.heap.size 3 i0 (.int .i64 0) 1 8 Tryz.underlying80 hi hz0 hz1 hz2 rfl (by decide) _ 0 [] rfl HO.out _ p.length (p.map numV) rfl HR.out (by simp) (by intro u hu;simp[numV] at hu;obtain⟨x,_,rfl⟩:=hu;rfl) (by have:=HM.out;unfold maxLen;omega) (by have:=HM.out;omega) (by simp) ?_);intro v3 w3 ho3 hg3;go_must (have HO3:=hide (And.intro ho3 hg3));clear ho3 hg3)
   go_ret
   have ho:=HO3.out.1
   rw[List.nil_append] at ho
   obtain⟨ao', cap', rfl,h1,h2,h3,h4⟩:=own_path ho (by omega)
   exact⟨ao', cap', rfl,h1,h2,h3,h4,(below_alloc _ _).grown HO3.out.2 (by simp) (own_ge HO.out (Nat.le_refl _))⟩
theorem take_eq_step {p q:List Nat}{k:Nat}(h:p.take k=q.take k)(hp:k<p.length)(hq:k<q.length)(he:p.getD k 0=q.getD k 0):p.take (k+1)=q.take (k+1):=by
 rw[List.take_succ_eq_append_getElem hp,List.take_succ_eq_append_getElem hq,h]
 have e1:p.getD k 0=p[k]:=by simp[List.getD_eq_getElem?_getD,hp]
 have e2:q.getD k 0=q[k]:=by simp[List.getD_eq_getElem?_getD,hq]
 rw[←e1,←e2,he]
theorem shared_step {q p:List Nat}{n:Nat}(h:n<shared q p):n<q.length∧n<p.length∧q.getD n 0=p.getD n 0:=by
 have h1:=shared_le_left q p
 have h2:=shared_le_right q p
 refine⟨by omega,by omega,?_⟩
 have e:=congrArg (fun l=>l.getD n 0) (shared_take q p)
 simpa[List.getD_eq_getElem?_getD,List.getElem?_take,h] using e
theorem drew_below (w:World)(n:Nat):Below w.heap.size w (w.drewN n):=below_drewN (Below.refl _ _) n
theorem equalI_any (ao bo:Option Addr)(ca cb:Nat)(p q:List Nat)(w:World)(ha:Nums w ao p)(hb:Nums w bo q)(hp:p.length≤1000) :
  Calls Tryz.prog 213 #[.slice ao p.length ca,.slice bo q.length cb] w fun e w' => e=.returned (.bool (decide (p=q)))∧Below w.heap.size w w' := by
 by_cases hl:p.length=q.length
 ·have hl1:((p.length:Int) != (q.length:Int))=false:=by simp;omega
  have HA:=hide ha
  have HB:=hide hb
  have HL:=hide hl
  have hpI:(p.length:Int)≤1000:=by omega
  clear ha hb
  go_enter Tryz.func213,Tryz.ntmps213
  go_wp2_with fail
  clear hl hl1
  go_loopw [13] (fun i wr=>∃k:Nat,k≤p.length∧i=.int .i64 (k:Int)∧p.take k=q.take k∧∃n,wr=w.drewN n) (fun i _=>p.length - (intOf i).toNat)
  case atStart=>exact⟨0,Nat.zero_le _,rfl,by simp,0,rfl⟩
  case round =>
   obtain⟨k,hk,rfl,ht,n,rfl⟩:=hrel
   by_cases hlt:k<p.length
   ·have hlq:k<q.length:=by have:=HL.out;omega
    obtain⟨b1,o1,rfl,c1⟩:=HA.out.at' k hlt
    obtain⟨b2,o2,rfl,c2⟩:=HB.out.at' k hlq
    have HT:=hide ht
    have hkI:(k:Int)<(p.length:Int):=by omega
    have hkq:(k:Int)<(q.length:Int):=by omega
    have hk0:(0:Int)≤(k:Int):=by omega
    by_cases he:p.getD k 0=q.getD k 0
    ·have HS:=hide (take_eq_step ht hlt hlq he)
     rw[←he] at c2
     clear ht he hlq
     generalize p.getD k 0=z at *
     go_wp2
     go_quiet (fail)
     go_wp2
     go_roundw
     case rel=>exact⟨k+1,by omega,by go_num,HS.out,n+nq,rfl⟩
     case measure=>simp[intOf];omega
    ·have HN:Hid (p≠q):=fun e=>he (by rw[e])
     have hne:((p.getD k 0:Nat):Int)≠((q.getD k 0:Nat):Int):=by omega
     clear ht he hlq
     generalize p.getD k 0=z1 at *
     generalize q.getD k 0=z2 at *
     go_wp2
     go_quiet (fail)
     go_wp2
     go_ret
     exact⟨by rw[decide_eq_false HN.out];rfl,by first|exact below_drewN (drew_below _ _) _|exact drew_below _ _⟩
   ·obtain rfl:k=p.length:=by omega
    have HE:Hid (p=q):=by
     show p=q
     have h1:=HL.out
     rw[List.take_length,h1,List.take_length] at ht
     exact ht
    have hql:(q.length:Int)≤(p.length:Int):=by have:=HL.out;omega
    clear ht
    go_wp2
    go_ret
    exact⟨by rw[decide_eq_true HE.out];rfl,drew_below _ _⟩
 ·have hl1:((p.length:Int) != (q.length:Int))=true:=by simp;omega
  have HN:Hid (p≠q):=fun e=>hl (by rw[e])
  clear ha hb hl
  go_enter Tryz.func213,Tryz.ntmps213
  go_wp2
  go_ret
  exact⟨by rw[decide_eq_false HN.out];rfl,Below.refl _ _⟩
theorem sharedI_any (ao bo:Option Addr)(ca cb:Nat)(p q:List Nat)(w:World)(ha:Nums w ao p)(hb:Nums w bo q)(hp:p.length≤1000) :
  Calls Tryz.prog 214 #[.slice ao p.length ca,.slice bo q.length cb] w fun e w' => e=.returned (.int .i64 (shared p q:Int))∧Below w.heap.size w w' := by
 have HA:=hide ha
 have HB:=hide hb
 have hpI:(p.length:Int)≤1000:=by omega
 clear ha hb
 go_enter Tryz.func214,Tryz.ntmps214
 go_wp2_with fail
 go_loopw [5] (fun i wr=>∃k:Nat,k≤shared p q∧i=.int .i64 (k:Int)∧∃n,wr=w.drewN n) (fun i _=>shared p q - (intOf i).toNat)
 case atStart=>exact⟨0,Nat.zero_le _,rfl,0,rfl⟩
 case round =>
  obtain⟨k,hk,rfl,n,rfl⟩:=hrel
  have hk0:(0:Int)≤(k:Int):=by omega
  by_cases hlt:k<shared p q
  ·obtain⟨l1,l2,he⟩:=shared_step hlt
   obtain⟨b1,o1,rfl,c1⟩:=HA.out.at' k l1
   obtain⟨b2,o2,rfl,c2⟩:=HB.out.at' k l2
   rw[←he] at c2
   have d1:(k:Int)<(p.length:Int):=by omega
   have d2:(k:Int)<(q.length:Int):=by omega
   clear he
   generalize p.getD k 0=z at *
   go_wp2
   go_quiet (fail)
   go_wp2
   go_roundw
   case rel=>exact⟨k+1,by omega,by go_num,n+nq,rfl⟩
   case measure=>simp[intOf];omega
  ·have hke:k=shared p q:=by omega
   have h1:=shared_le_left p q
   have h2:=shared_le_right p q
   by_cases l1:k<p.length
   ·have d1:(k:Int)<(p.length:Int):=by omega
    by_cases l2:k<q.length
    ·have d2:(k:Int)<(q.length:Int):=by omega
     obtain⟨b1,o1,rfl,c1⟩:=HA.out.at' k l1
     obtain⟨b2,o2,rfl,c2⟩:=HB.out.at' k l2
     have hne:((p.getD k 0:Nat):Int)≠((q.getD k 0:Nat):Int):=by
      have:=shared_ne p q (p.getD k 0) (q.getD k 0) (by rw[←hke];simp[List.getD_eq_getElem?_getD,l1]) (by rw[←hke];simp[List.getD_eq_getElem?_getD,l2])
      omega
     have HK:=hide hke
     generalize p.getD k 0=z1 at *
     generalize q.getD k 0=z2 at *
     clear hke hlt hk h1 h2
     go_wp2
     go_quiet (fail)
     go_wp2
     go_ret
     exact⟨by rw[←HK.out];rfl,by first|exact below_drewN (drew_below _ _) _|exact drew_below _ _⟩
    ·have d2:(q.length:Int)≤(k:Int):=by omega
     have HK:=hide hke
     clear hke hlt hk h1 h2
     go_wp2
     go_quiet (fail)
     go_wp2
     go_ret
     exact⟨by rw[←HK.out];rfl,by first|exact below_drewN (drew_below _ _) _|exact drew_below _ _⟩
   ·have d1:(p.length:Int)≤(k:Int):=by omega
    have HK:=hide hke
    clear hke hlt hk h1 h2
    go_wp2
    go_quiet (fail)
    go_wp2
    go_ret
    exact⟨by rw[←HK.out];rfl,by first|exact below_drewN (drew_below _ _) _|exact drew_below _ _⟩
theorem newLeaf_any (Hk:Nd→ByteArray→Prop)(ao:Option Addr)(cap:Nat)(p:List Nat)(x:ByteArray)(w:World)(hp:Nums w ao p)(h0:ao=none→cap=0)(hc:p.length≤cap)(hm:p.length≤1000) :
  Calls Tryz.prog 81 #[.slice ao p.length cap,.string x] w fun e w' => ∃b,e=.returned (ptr b)∧b+1=w'.heap.size∧w.heap.size≤b∧NdAt Hk (fun k=>w.heap.size≤k) w' (.leaf p x) (.iface 153 (ptr b))∧Below w.heap.size w w' := by
 have HC:=hide (cloneI_any ao cap p w hp h0 hc hm)
 clear hp h0 hc hm
 go_enter Tryz.func81,Tryz.ntmps81
 go_wp2_with fail
 refine HC.out.mono ?_
 rintro e w1 ⟨ao1,cap1,rfl,h0,h1,h2,h3,hb⟩
 have HB:=hide hb
 have HN:=hide (And.intro h1 (And.intro h2 (And.intro h3 h0)))
 clear h0 h1 h2 h3 hb
 go_wp2
 go_ret
 exact⟨w1.heap.size,rfl,by simp,HB.out.size,⟨w1.heap.size,ao1,cap1,rfl,HB.out.size,HN.out.2.2.2,heap_alloc_new w1 _,HN.out.1.keep (below_alloc w1 _) (Nat.le_refl _),HN.out.2.1,HN.out.2.2.1⟩,HB.out.alloc HB.out.size _⟩
def markZ (n:Nat):List Int:=[65+(n:Int) % 26,97+(n:Int) / 26 % 26,48+(n:Int) / 676 % 10]
def markS (n:Nat):ByteArray:=(⟨#[109,97,114,107,32]⟩:ByteArray)++strOfNums (markZ n)
theorem mark_any (n:Nat)(w:World)(hn:n≤1000000000000) :
  Calls Tryz.prog 33 #[.int .i64 (n:Int)] w fun e w' => e=.returned (.string (markS n))∧Below w.heap.size w w' := by
 have j0:(0:Int)≤(n:Int):=by omega
 have HM:Hid (markS n=(⟨#[109,97,114,107,32]⟩:ByteArray)++strOfNums (markZ n)):=rfl
 have hcv:=run_convert_bytes_arg (P:=Tryz.prog) (w.alloc (.cells #[.int .u8 (65+(n:Int) % 26),.int .u8 (97+(n:Int) / 26 % 26),.int .u8 (48+(n:Int) / 676 % 10)] 5)) 144 5 Tryz.underlying144 Tryz.underlying5 w.heap.size 0 3 3 (markZ n) rfl (by
  intro i hi
  rw[Nat.zero_add,World.cell?_alloc_new]
  have h:i=0∨i=1∨i=2:=by omega
  rcases h with rfl|rfl|rfl<;>rfl) 9 Tryz.underlying9
 have hz:(strOfNums (markZ n)).size=3:=rfl
 have hadd:=fun W:World=>run_string_add_sum (P:=Tryz.prog) (w:=W) (⟨#[109,97,114,107,32]⟩:ByteArray) (strOfNums (markZ n)) (by rw[hz];decide)
 clear hz
 generalize markS n=M at *
 generalize strOfNums (markZ n)=Z at *
 go_enter Tryz.func33,Tryz.ntmps33
 go_wp2
 go_ret
 exact⟨by rw[HM.out];rfl,below_alloc _ _⟩
def lentS:ByteArray:=⟨#[108,101,110,116]⟩
theorem infoEnt:(Tryz.prog.info? 125).map (fun i=>(i.zero,i.size,i.bytes))=some (some (.agg #[.string ⟨#[]⟩,.string ⟨#[]⟩]),2,32):=by kernel_rfl
theorem sizeEnt:(Tryz.prog.info? 125).map (·.size)=some 2:=by kernel_rfl
theorem sizePair:(Tryz.prog.info? 33).map (·.size)=some 2:=by kernel_rfl
theorem run_copy_row2 {P:Program}(w:World)(dT sT ty elem:TypeId)(g o dLen dCap:Nat)(a:Addr)(sLen sCap:Nat)(cur:Array Value)(t:TypeId)(cs:List Value)
  (hu:P.underlying dT=some (.slice elem)) (hs:(P.info? elem).map (·.size)=some 2)
  (hg:w.heap[g]? = some (.cells cur t (0,0))) (hn:cs.length=Nat.min sLen dLen*2)
  (hsrc:∀j v,cs[j]? = some v→w.cell? (a.add j)=some v) (hfit:o+cs.length≤cur.size) (h1:∀v∈cs,v.oneCell' = true) :
  (Builtin.copy_ #[dT,sT] ty #[.slice (some ⟨g,o,none⟩) dLen dCap,.slice (some a) sLen sCap]).run P w =
    .ok (goInt (Nat.min sLen dLen)) (w.setRow g (cur.toList.take o++cs++cur.toList.drop (o+cs.length)).toArray):=by
 have hl:=run_loadCells_list (P:=P) w a cs hsrc
 have hst:=run_storeCells_at P g o t cs 0 cur w hg (by simpa using hfit) h1
 cases hq:P.info? elem with
 | none=>simp[hq] at hs
 | some i =>
   have hi:i.size=2:=by simpa[hq] using hs
   simp[Builtin.copy_,run_underlying hu,Builtin.lenOf,Builtin.firstCells,sizeOf,typeInfo,hq,hi,←hn,hl,hst]
theorem run_copy_none2 {P:Program}(w:World)(dT sT ty elem:TypeId)(d a:Option Addr)(dLen dCap sLen sCap:Nat)(hu:P.underlying dT=some (.slice elem))(hs:(P.info? elem).map (·.size)=some 2)(hn:Nat.min sLen dLen=0) :
  (Builtin.copy_ #[dT,sT] ty #[.slice d dLen dCap,.slice a sLen sCap]).run P w=.ok (goInt 0) w:=by
 cases hq:P.info? elem with
 | none=>simp[hq] at hs
 | some i =>
   have hl:∀(x:Addr),(loadCells x 0).run P w=.ok #[] w:=fun x=>by simpa using run_loadCells_list (P:=P) w x [] (by simp)
   cases d<;>cases a<;>simp[Builtin.copy_,run_underlying hu,Builtin.lenOf,Builtin.firstCells,sizeOf,typeInfo,hq,hn,storeCells,hl]
theorem below_set2 {B R:Nat}{a w:World}(h:Below B a w)(hR:B≤R)(i j:Nat)(x y:Value):Below B a ((w.setCell ⟨R,i,none⟩ x).setCell ⟨R,j,none⟩ y):=(h.setCell (p:=⟨R,i,none⟩) hR x).setCell (p:=⟨R,j,none⟩) hR y
structure Ex (X:Nat→Prop)(w w' : World):Prop where
 os:w'.os=w.os
 tape:w'.tape=w.tape
 output:w'.output=w.output
 size:w.heap.size≤w'.heap.size
 block:∀k,k<w.heap.size→¬X k→w'.heap[k]? = w.heap[k]?
theorem Ex.of_below {X:Nat→Prop}{w w' : World}(h:Below w.heap.size w w'):Ex X w w' := ⟨h.os,h.tape,h.output,h.size,fun k hk _=>h.block k hk⟩
theorem Ex.trans {X:Nat→Prop}{a b c:World}(h:Ex X a b)(h2:Ex X b c):Ex X a c:=⟨h2.os.trans h.os,h2.tape.trans h.tape,h2.output.trans h.output,Nat.le_trans h.size h2.size,fun k hk hx=>(h2.block k (Nat.lt_of_lt_of_le hk h.size) hx).trans (h.block k hk hx)⟩
theorem Ex.mono {X Y:Nat→Prop}{a b:World}(h:Ex X a b)(hxy:∀k,k<a.heap.size→X k→Y k):Ex Y a b:=⟨h.os,h.tape,h.output,h.size,fun k hk hy=>h.block k hk fun hx=>hy (hxy k hk hx)⟩
theorem Ex.set {X:Nat→Prop}{a b:World}(h:Ex X a b){p:Addr}(hp:X p.block∨a.heap.size≤p.block)(v:Value):Ex X a (b.setCell p v) where
 os:=h.os
 tape:=h.tape
 output:=h.output
 size:=by simpa[World.setCell] using h.size
 block:=fun k hk hx=>by
  rw[heap_setCell_other b p k v (fun e=>by rcases hp with hp|hp;exact hx (e ▸ hp);omega)]
  exact h.block k hk hx
theorem infoEs:(Tryz.prog.info? 22).map (fun i=>(i.zero,i.size,i.bytes))=some (some (.slice none 0 0),1,24):=by kernel_rfl
theorem entriesRead_nil (c:Nat)(w:World) :
  Calls Tryz.prog 32 #[.slice none 0 0,.int .i64 (c:Int)] w fun e w' => e=.returned (.bool true)∧w' = w:=by
 go_enter Tryz.func32,Tryz.ntmps32
 go_wp2_with fail
 go_loopw [5] (fun iv wr=>iv=.int .i64 0∧wr=w) (fun _ _=>0)
 case atStart=>exact⟨rfl,rfl⟩
 case round =>
  obtain⟨rfl,rfl⟩:=hrel
  go_wp2
  go_ret
  exact⟨rfl,rfl⟩
theorem small_nil (b:Nat)(w:World)(h0:w.cell? ⟨b,0,none⟩=some (.slice none 0 0))(h1:w.cell? ⟨b,1,none⟩=some (.slice none 0 0)) :
  Calls Tryz.prog 31 #[.pointer (some ⟨b,0,none⟩)] w fun e w' => e=.returned (.bool true)∧w' = w:=by
 go_enter Tryz.func31,Tryz.ntmps31
 go_wp2_with fail
 go_loopw [3] (fun iv wr=>iv=.int .i64 0∧wr=w) (fun _ _=>0)
 case atStart=>exact⟨rfl,rfl⟩
 case round =>
  obtain⟨rfl,rfl⟩:=hrel
  go_wp2_with fail
  rename World=>A
  go_loopw [5] (fun iv wr=>iv=.int .i64 0∧wr=A) (fun _ _=>0)
  case atStart=>exact⟨rfl,rfl⟩
  case round =>
   obtain⟨rfl,rfl⟩:=hrel
   go_wp2
   go_ret
   exact⟨rfl,rfl⟩
theorem ownsRow_type {w:World}{lo n sz:Nat}{e:TypeId}{v:Value}{xs:List Value}(h:w.ownsRow lo e sz v n xs)(q:Nat)(hq:v.ownBlock=some q):lo≤q∧∃cur,w.heap[q]? = some (.cells cur e (0,0)):=by
 rcases h.2 with⟨h1,_⟩|⟨q', c,cur,h1,h2,h3,h4⟩
 ·rw[h1] at hq;cases hq
 ·rw[h1] at hq
  obtain rfl:q' = q:=by simpa[Value.ownBlock] using hq
  exact⟨h2,cur,h3⟩
theorem ownsRow_slice {w:World}{lo n sz:Nat}{e:TypeId}{v:Value}{xs:List Value}(h:w.ownsRow lo e sz v n xs):∃va vc,v=.slice va n vc:=by
 rcases h.2 with⟨h1,h2⟩|⟨g,c,cur,h1,_⟩
 ·exact⟨none,0,by rw[h1,h2]⟩
 ·exact⟨_,_,h1⟩
end Go.Proofs.YthdjmldddjljfaaGreatDoor
namespace Go.Proofs.YthdjmldddjljfaaGreatDoor
open Go.RowKit
theorem cell_of_blk {w:World}{B:Nat}{cs:Array Value}{t:TypeId}(h:w.heap[B]? = some (.cells cs t (0,0)))(j:Nat):w.cell? ⟨B,j,none⟩=cs[j]?:=cell_of_row w B j cs t (0,0) h
theorem frozen_of_blk {w:World}{B:Nat}{cs:Array Value}{t:TypeId}(h:w.heap[B]? = some (.cells cs t (0,0)))(j:Nat):w.frozen? ⟨B,j,none⟩=false:=frozen_of_row _ _ j _ _ h
def rep2 (k:Nat)(m:ByteArray):List Value:=(List.replicate k [.string m,.string ⟨#[]⟩]).flatten
theorem rep2_snoc (k:Nat)(m:ByteArray):rep2 k m++[.string m,.string ⟨#[]⟩]=rep2 (k+1) m:=by
 simp[rep2,List.replicate_succ']
theorem rep2_length (k:Nat)(m:ByteArray):(rep2 k m).length=k*2:=by
 simp[rep2]
theorem rep2_get (m:ByteArray):∀(k j:Nat),j<k→(rep2 k m)[j*2]? = some (.string m)∧(rep2 k m)[j*2+1]? = some (.string ⟨#[]⟩)
 | 0,j,h=>by omega
 | k+1,j,h=>by
   rw[←rep2_snoc]
   have hl:=rep2_length k m
   by_cases h1:j<k
   ·rw[List.getElem?_append_left (by omega),List.getElem?_append_left (by omega)]
    exact rep2_get m k j h1
   ·obtain rfl:j=k:=by omega
    rw[List.getElem?_append_right (by omega),List.getElem?_append_right (by omega),hl,Nat.sub_self,show j*2+1 - j*2=1 from by omega]
    exact⟨rfl,rfl⟩
theorem rep2_step (n k:Nat)(xs:List Value)(m:ByteArray)(hl:xs.length=n*2)(h:k<n):((rep2 k m++xs.drop (k*2)).set (k*2) (.string m)).set (k*2+1) (.string ⟨#[]⟩)=rep2 (k+1) m++xs.drop ((k+1)*2):=by
 have hr:=rep2_length k m
 obtain⟨a,b,ys,hx⟩:∃a b ys,xs.drop (k*2)=a :: b :: ys:=by
  have h3:2≤(xs.drop (k*2)).length:=by rw[List.length_drop];omega
  match hd:xs.drop (k*2),h3 with
  | a :: b :: ys,_=>exact⟨a,b,ys,rfl⟩
 have hy:xs.drop ((k+1)*2)=ys:=by
  rw[show (k+1)*2=k*2+2 from by omega,←List.drop_drop,hx];rfl
 rw[hy,hx,←rep2_snoc,List.append_assoc]
 rw[List.set_append_right _ _ (by omega),hr,Nat.sub_self]
 rw[List.set_append_right _ _ (by omega),hr,show k*2+1 - k*2=1 from by omega]
 rfl
theorem rep2_lt {k j:Nat}{m:ByteArray}{u:Value}(h:(rep2 k m)[j]? = some u):j<k*2:=by
 have:=(List.getElem?_eq_some_iff.1 h).1
 rwa [rep2_length] at this
theorem rep2_pre {m:ByteArray}:∀{n k j:Nat} {u:Value},k≤n→(rep2 k m)[j]? = some u→(rep2 n m)[j]? = some u
 | 0,k,j,u,hk,h=>by obtain rfl:k=0:=by omega
                    exact h
 | n+1,k,j,u,hk,h=>by
   by_cases e:k=n+1
   ·subst e;exact h
   ·have h2:=rep2_pre (n:=n) (by omega) h
    rw[←rep2_snoc,List.getElem?_append_left (by have:=rep2_lt h2;rw[rep2_length];exact this)]
    exact h2
def Mk2 (te:TypeId)(w:World)(v:Value)(k:Nat)(m:ByteArray):Prop:=(v=.slice none 0 0∧k=0)∨∃g c,v=.slice (some ⟨g,0,none⟩) k c∧(∃cur,w.heap[g]? = some (.cells cur te (0,0)))∧∀j u,(rep2 k m)[j]? = some u→w.cell? ⟨g,j,none⟩=some u
theorem Mk2.own {w:World}{base te:Nat}{v:Value}{k:Nat}{m:ByteArray}(h:w.ownsRow base te 2 v k (rep2 k m)):Mk2 te w v k m:=by
 rcases h.2 with⟨rfl,rfl⟩|⟨g,cap,cur,rfl,_,hg,_⟩
 ·exact .inl ⟨rfl,rfl⟩
 ·refine .inr ⟨g,cap,rfl,⟨cur,hg⟩,fun j u hj=>?_⟩
  rw[h.cellAt j (rep2_lt hj)]
  exact hj
theorem Mk2.grown {w w' : World}{base te:Nat}{v u:Value}{k n:Nat}{m:ByteArray}(h:Mk2 te w u k m)(ho:w'.ownsRow base te 2 v n (rep2 n m))(hkn:k≤n)(hg:w.grownBy w' v.ownBlock):Mk2 te w' u k m:=by
 rcases h with h|⟨g,c,rfl,⟨cur0,hcur⟩,hc⟩
 ·exact .inl h
 ·by_cases e:some g=v.ownBlock
  ·rcases ho.2 with⟨h1,rfl⟩|⟨g', cap', cur,h1,_,hg', _⟩
   ·rw[h1] at e;cases e
   ·subst h1
    obtain rfl:g=g' := by simpa[Value.ownBlock] using e
    refine .inr ⟨g,c,rfl,⟨cur,hg'⟩,fun j x hj=>?_⟩
    have:=rep2_lt hj
    rw[ho.cellAt j (by omega)]
    exact rep2_pre hkn hj
  ·have hs:w'.heap[g]? = w.heap[g]?:=hg.block g (aGe.1 hcur).1 e
   exact .inr ⟨g,c,rfl,⟨cur0,hs.trans hcur⟩,fun j x hj=>(World.cell?_of_block (a:=⟨g,j,none⟩) hs).trans (hc j x hj)⟩
theorem Mk2.far {te:TypeId}{w w' : World}{u:Value}{k:Nat}{m:ByteArray}(h:Mk2 te w u k m)(hs:∀g cur,u.ownBlock=some g→w.heap[g]? = some (.cells cur te (0,0))→w'.heap[g]? = w.heap[g]?):Mk2 te w' u k m:=by
 rcases h with h|⟨g,c,rfl,⟨cur,hcur⟩,hc⟩
 ·exact .inl h
 ·have e:=hs g cur rfl hcur
  exact .inr ⟨g,c,rfl,⟨cur,e.trans hcur⟩,fun j x hj=>(World.cell?_of_block (a:=⟨g,j,none⟩) e).trans (hc j x hj)⟩
structure ListPost (lo:Nat)(te tr tb:TypeId)(ci:Nat)(w w' : World)(B:Nat)(cs:Array Value)(L:Value)(N:Nat)(rows:List Value)(lv:Value)(n:Nat)(m:ByteArray):Prop where
 ends:∃L' x y z,w'.heap[B]? = some (.cells (cs.setIfInBounds ci L') tb (0,0))∧w'.ownsRow lo tr 1 L' (N+4) (rows++[lv,x,y,z])∧Mk2 te w' lv n m∧Mk2 te w' x (n+1) m∧Mk2 te w' y (n+2) m∧Mk2 te w' z (n+3) m ∧
  (∀k,L'.ownBlock=some k→L.ownBlock=some k∨w.heap.size≤k)∧(∀u,u=x∨u=y∨u=z→∀k,u.ownBlock=some k→lv.ownBlock=some k∨w.heap.size≤k)
 ex:Ex (fun k=>k=B∨some k=lv.ownBlock∨some k=L.ownBlock) w w'
structure Three2 (te:TypeId)(w w3:World)(lv x y z:Value)(n:Nat)(m:ByteArray):Prop where
 a3:w.grownBy w3 lv.ownBlock
 ml:Mk2 te w3 lv n m
 mx:Mk2 te w3 x (n+1) m
 my:Mk2 te w3 y (n+2) m
 mz:Mk2 te w3 z (n+3) m
 bx:∀k,x.ownBlock=some k→lv.ownBlock=some k∨w.heap.size≤k
 by' : ∀k,y.ownBlock=some k→lv.ownBlock=some k∨w.heap.size≤k
 bz:∀k,z.ownBlock=some k→lv.ownBlock=some k∨w.heap.size≤k
theorem three2 {lo te:Nat}{w wr w1 w2 w3:World}{o1 o2 o3:Obj}{lv:Value}{n g1 c1 g2 c2 g3 c3:Nat}{m:ByteArray}(hg:w.grownBy wr lv.ownBlock)
  (O1:w1.ownsRow lo te 2 (.slice (some ⟨g1,0,none⟩) (n+1) c1) (n+1) (rep2 n m++[.string m,.string ⟨#[]⟩])) (K1:w1.ownsRow lo te 2 lv n (rep2 n m)) (G1:(wr.alloc o1).grownBy w1 lv.ownBlock) (A1:lv.ownBlock=some g1∨g1=wr.heap.size+1)
  (O2:w2.ownsRow lo te 2 (.slice (some ⟨g2,0,none⟩) (n+2) c2) (n+2) (rep2 (n+1) m++[.string m,.string ⟨#[]⟩])) (K2:w2.ownsRow lo te 2 (.slice (some ⟨g1,0,none⟩) (n+1) c1) (n+1) (rep2 (n+1) m)) (G2:(w1.alloc o2).grownBy w2 (some g1)) (A2:g1=g2∨g2=w1.heap.size+1)
  (O3:w3.ownsRow lo te 2 (.slice (some ⟨g3,0,none⟩) (n+3) c3) (n+3) (rep2 (n+2) m++[.string m,.string ⟨#[]⟩])) (K3:w3.ownsRow lo te 2 (.slice (some ⟨g2,0,none⟩) (n+2) c2) (n+2) (rep2 (n+2) m)) (G3:(w2.alloc o3).grownBy w3 (some g2)) (A3:g2=g3∨g3=w2.heap.size+1) :
  Three2 te w w3 lv (.slice (some ⟨g1,0,none⟩) (n+1) c1) (.slice (some ⟨g2,0,none⟩) (n+2) c2) (.slice (some ⟨g3,0,none⟩) (n+3) c3) n m:=by
 have s0:=hg.size
 have B1:w.grownBy w1 lv.ownBlock:=(hg.andThen (World.grownBy_alloc wr o1 lv.ownBlock) (fun j e=>.inr e)).andThen G1 (fun j e=>.inr e)
 have q1:lv.ownBlock=some g1∨w.heap.size≤g1:=by rcases A1 with h|h;exact .inl h;right;omega
 have s1:=B1.size
 have B2:w.grownBy w2 lv.ownBlock:=(B1.andThen (World.grownBy_alloc w1 o2 lv.ownBlock) (fun j e=>.inr e)).andThen G2 (fun j e=>by
  obtain rfl:g1=j:=by simpa using e
  rcases q1 with h|h;exact .inr h;exact .inl h)
 have q2:lv.ownBlock=some g2∨w.heap.size≤g2:=by rcases A2 with h|h;rw[←h];exact q1;right;omega
 have s2:=B2.size
 have B3:w.grownBy w3 lv.ownBlock:=(B2.andThen (World.grownBy_alloc w2 o3 lv.ownBlock) (fun j e=>.inr e)).andThen G3 (fun j e=>by
  obtain rfl:g2=j:=by simpa using e
  rcases q2 with h|h;exact .inr h;exact .inl h)
 have q3:lv.ownBlock=some g3∨w.heap.size≤g3:=by rcases A3 with h|h;rw[←h];exact q2;right;omega
 rw[rep2_snoc] at O1 O2 O3
 have ml1:Mk2 te w1 lv n m:=Mk2.own K1
 have mx1:Mk2 te w1 (.slice (some ⟨g1,0,none⟩) (n+1) c1) (n+1) m:=Mk2.own O1
 have al:∀{w:World} {u:Value} {k:Nat} (o:Obj),Mk2 te w u k m→Mk2 te (w.alloc o) u k m:=fun o h=>h.far (fun g cur _ hlt=>Below.heap_alloc _ o g (aGe.1 hlt).1)
 have ml2:Mk2 te w2 lv n m:=(al o2 ml1).grown K2 (by omega) G2
 have mx2:Mk2 te w2 (.slice (some ⟨g1,0,none⟩) (n+1) c1) (n+1) m:=(al o2 mx1).grown K2 (by omega) G2
 have my2:Mk2 te w2 (.slice (some ⟨g2,0,none⟩) (n+2) c2) (n+2) m:=Mk2.own O2
 exact⟨B3,(al o3 ml2).grown K3 (by omega) G3,(al o3 mx2).grown K3 (by omega) G3,(al o3 my2).grown K3 (by omega) G3,Mk2.own O3,
  fun k e=>by obtain rfl:g1=k:=by simpa[Value.ownBlock] using e
              exact q1,
  fun k e=>by obtain rfl:g2=k:=by simpa[Value.ownBlock] using e
              exact q2,
  fun k e=>by obtain rfl:g3=k:=by simpa[Value.ownBlock] using e
              exact q3⟩
theorem Three2.own2 {lo te tr:Nat}{w w3:World}{L lv x y z:Value}{N n:Nat}{rows:List Value}{m:ByteArray}(T:Three2 te w w3 lv x y z n m)(h2l:∀k,L.ownBlock=some k→lv.ownBlock≠some k)(h2:w.ownsRow lo tr 1 L N rows):w3.ownsRow lo tr 1 L N rows :=
 own_far h2 (fun k e _=>T.a3.block k (h2.lt k e).2 (fun e2=>h2l k e e2.symm))
theorem Three2.cellB {te t:TypeId}{w w3:World}{lv x y z:Value}{cs:Array Value}{B n:Nat}{m:ByteArray}(T:Three2 te w w3 lv x y z n m)(hB:w.heap[B]? = some (.cells cs t (0,0)))(hBl:lv.ownBlock≠some B) :
  w3.heap[B]? = some (.cells cs t (0,0)):=by
 rw[T.a3.block B (aGe.1 hB).1 (fun e=>hBl e.symm)];exact hB
theorem blk4 {w3 w4:World}{o4:Obj}{ob:Option Nat}{B:Nat}{cs:Array Value}{t:TypeId}(h:w3.heap[B]? = some (.cells cs t (0,0)))(G4:(w3.alloc o4).grownBy w4 ob)(hB2:ob≠some B):w4.heap[B]? = some (.cells cs t (0,0)):=by
 have hlt:B<w3.heap.size:=(aGe.1 h).1
 rw[G4.block B (by simp;omega) (fun e=>hB2 e.symm),Below.heap_alloc _ _ _ hlt];exact h
theorem ne_row {ob:Option Nat}{g X M:Nat}(h:ob=some g∨g=X)(ho:ob≠some M)(hM:M<X):some g≠some M:=by
 rcases h with h|h
 ·rw[←h];exact ho
 ·intro e;simp at e;omega
theorem listPost_mk {lo te tr tb ci:Nat}{w w3 w4:World}{B:Nat}{cs:Array Value}{L L' lv x y z:Value}{N n:Nat}{rows:List Value}{m:ByteArray}{o4:Obj}(T:Three2 te w w3 lv x y z n m)(h2l:∀k,L.ownBlock=some k→lv.ownBlock≠some k)
  (hB:w.heap[B]? = some (.cells cs tb (0,0))) (htb:tb≠te∧tb≠tr) (hBl:lv.ownBlock≠some B) (hB2:L.ownBlock≠some B) (h2:w.ownsRow lo tr 1 L N rows)
  (O4:w4.ownsRow lo tr 1 L' (N+4) (rows++[lv,x,y,z])) (G4:(w3.alloc o4).grownBy w4 L.ownBlock) (A4:∀k,L'.ownBlock=some k→L.ownBlock=some k∨k=w3.heap.size+1) :
  ListPost lo te tr tb ci w (w4.setCell ⟨B,ci,none⟩ L') B cs L N rows lv n m:=by
 have hBs:B<w.heap.size:=(aGe.1 hB).1
 have s3:=T.a3.size
 have s4:w3.heap.size+1≤w4.heap.size:=by have:=G4.size;simpa using this
 have sets:∀k,k≠B→(w4.setCell ⟨B,ci,none⟩ L').heap[k]? = w4.heap[k]?:=fun k hk=>Below.heap_setCell _ _ _ _ hk
 have b4:∀k,k<w3.heap.size→some k≠L.ownBlock→w4.heap[k]? = w3.heap[k]?:=fun k hk hne=>by
  rw[G4.block k (by simp;omega) hne];exact Below.heap_alloc _ _ _ hk
 have hB3:=T.cellB hB hBl
 have hBw4:w4.heap[B]? = some (.cells cs tb (0,0)):=by
  rw[b4 B (by omega) (fun e=>hB2 e.symm)];exact hB3
 have mk:∀{u:Value} {j:Nat},Mk2 te w3 u j m→(∀k,u.ownBlock=some k→lv.ownBlock=some k∨w.heap.size≤k)→Mk2 te (w4.setCell ⟨B,ci,none⟩ L') u j m:=by
  intro u j h hb
  refine h.far (fun g cur e hc=>?_)
  have hg1:g≠B:=fun e2=>by
   rw[e2,hB3] at hc
   injection hc with hc
   injection hc with _ hc _
   exact htb.1 hc
  have hg2:some g≠L.ownBlock:=fun e2=>by
   have hlt:=(h2.lt g e2.symm).2
   rcases hb g e with h|h
   ·exact h2l g e2.symm h
   ·omega
  rw[sets g hg1,b4 g (aGe.1 hc).1 hg2]
 refine⟨⟨L', x,y,z,heap_setCell_same _ B ci _ _ L' hBw4,?_,mk T.ml (fun k e=>.inl e),mk T.mx T.bx,mk T.my T.by', mk T.mz T.bz,?_,?_⟩,?_⟩
 ·refine own_far O4 (fun g e _=>sets g (fun e2=>?_))
  obtain⟨_,cur,hc⟩:=ownsRow_type O4 g e
  rw[e2,hBw4] at hc
  injection hc with hc
  injection hc with _ hc _
  exact htb.2 hc
 ·intro k e
  rcases A4 k e with h|h
  ·exact .inl h
  ·right;omega
 ·intro u hu k e
  rcases hu with rfl|rfl|rfl
  ·exact T.bx k e
  ·exact T.by' k e
  ·exact T.bz k e
 ·refine⟨G4.os.trans T.a3.os,G4.tape.trans T.a3.tape,G4.output.trans T.a3.output,?_,fun k hk hx=>?_⟩
  ·show w.heap.size≤(w4.heap.modify _ _).size
   rw[Array.size_modify];omega
  ·rw[sets k (fun e=>hx (.inl e)),b4 k (by omega) (fun e=>hx (.inr (.inr e)))]
   exact T.a3.block k hk (fun e=>hx (.inr (.inl e)))
end Go.Proofs.YthdjmldddjljfaaGreatDoor
