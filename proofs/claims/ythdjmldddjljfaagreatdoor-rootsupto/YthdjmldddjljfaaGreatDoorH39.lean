/-
  OUR OWN.
-/
import Derived.Test.YthdjmldddjljfaaGreatDoorH38
import Derived.Test.YthdjmldddjljfaaGreatDoorH26
import Derived.Test.YthdjmldddjljfaaGreatDoorH24
import Derived.Test.YthdjmldddjljfaaGreatDoorH28
set_option maxHeartbeats 8000000
set_option maxRecDepth 20000
namespace Go.Proofs.YthdjmldddjljfaaGreatDoor
open Go.RowKit
def intsOf (p:List Nat):List Int:=p.map (fun (x:Nat)=>(x:Int))
def pcode (leaf:Bool)(p:List Nat):ByteArray:=textC (codeOf leaf (intsOf p))
def refB (nil:Bool)(c:ByteArray):ByteArray:=if nil=true then textC e0 else if c.size<32 then c else textC (hashOf c)
def Nd.code:Nd→ByteArray
 | .nil=>e0
 | .leaf p v=>listC [pcode true p,textC v]
 | .ext p n=>listC [pcode false p,refB n.isNil n.code]
 | .br c v=>listC ((List.range 16).map (fun i=>refB (c i).isNil (c i).code)++[textC v])
theorem joinB_size (cs:List ByteArray):(joinB cs).size=(cs.map ByteArray.size).sum:=by
 unfold joinB
 show (List.toArray _).size=_
 rw[List.size_toArray,List.length_flatMap]
 congr 1
theorem headS_size (m:Nat)(s:ByteArray):(headS m s).size≤s.size+8:=by
 unfold headS
 rw[ByteArray.size_append,strOfNums_size]
 have h:=cntB_le7 s.size
 unfold hdr
 split
 ·simp;omega
 ·simp only[List.length_cons,lenS_length];omega
theorem textC_size (s:ByteArray):(textC s).size≤s.size+8:=by
 unfold textC
 split
 ·omega
 ·exact headS_size 128 s
theorem hashOf_size (s:ByteArray):(hashOf s).size=32:=by
 unfold hashOf
 have h:∀f,(outL f).length=32:=fun f=>by simp[outL]
 show (List.toArray _).size=32
 rw[List.size_toArray];exact h _
theorem refB_size (b:Bool)(c:ByteArray):(refB b c).size≤40:=by
 unfold refB
 split
 ·have:=textC_size e0;exact Nat.le_trans this (by show 0+8≤40;omega)
 ·split
  ·omega
  ·have:=textC_size (hashOf c);rw[hashOf_size] at this;omega
theorem pairUp_len:∀(l:List Int),(pairUp l).length≤l.length
 | []=>by simp[pairUp]
 | [_]=>by simp[pairUp]
 | a :: b :: r=>by have:=pairUp_len r;simp[pairUp];omega
theorem pcode_size {leaf:Bool}{p:List Nat}(h:p.length≤128):(pcode leaf p).size≤140:=by
 unfold pcode
 have h1:=textC_size (codeOf leaf (intsOf p))
 have h2:(codeOf leaf (intsOf p)).size≤130:=by
  unfold codeOf
  rw[strOfNums_size]
  refine Nat.le_trans (pairUp_len _) ?_
  unfold halvesOf intsOf
  split<;>simp<;>omega
 omega
theorem isP_path {p:List Nat}(h:p.length≤128)(h16:∀x∈p,x<16):isP (intsOf p)=true:=by
 unfold isP intsOf
 rw[Bool.and_eq_true,decide_eq_true_eq,List.length_map,List.all_eq_true]
 refine⟨h,fun z hz=>?_⟩
 obtain⟨x,hx,rfl⟩:=List.mem_map.1 hz
 have:=h16 x hx
 simp[nib];omega
theorem Nums.ints {w:World}{ao:Option Addr}{p:List Nat}(h:Nums w ao p):Ints w ao (intsOf p):=by
 by_cases h0:0 < p.length
 ·obtain⟨b,off,e,_⟩:=h.at' 0 h0
  refine .inr ⟨b,off,e,fun j hj=>?_⟩
  have hj2:j<p.length:=by simpa[intsOf] using hj
  obtain⟨b', off', e', hc⟩:=h.at' j hj2
  obtain⟨rfl,rfl⟩:b=b' ∧ off=off' := by rw[e] at e';simpa using e'
  rw[hc]
  simp[intsOf,List.getD_eq_getElem?_getD,hj2]
 ·exact .inl (by rw[List.length_eq_zero_iff.1 (show p.length=0 by omega)];rfl)
structure CB (n:Nd):Prop where
 wf:n.WF
 len:n.Len 128
 vb:∀p,(n.look p).size≤400
theorem TOk.cb {n:Nd}(h:TOk n):CB n:=⟨h.wf,h.len,h.vb⟩
theorem CB.ext {q:List Nat}{m:Nd}(h:CB (.ext q m)):CB m:=⟨h.wf.2.2.2,Len_mono m h.len.2 (by omega),fun p=>by have:=h.vb (q++p);rwa [look_ext_app] at this⟩
theorem CB.kid {c:Nat→Nd}{v:ByteArray}(h:CB (.br c v))(i:Nat):CB (c i):=⟨h.wf.1 i,Len_mono (c i) (h.len.2 i) (by omega),fun p=>by have:=h.vb (i :: p);rwa [look_cons] at this⟩
theorem CB.leaf {q:List Nat}{v:ByteArray}(h:CB (.leaf q v)):v.size≤400∧q.length≤128:=⟨by have:=h.vb q;simpa[Nd.look] using this,h.len⟩
theorem CB.val {c:Nat→Nd}{v:ByteArray}(h:CB (.br c v)):v.size≤400:=by have:=h.vb [];rwa [look_nil'] at this
theorem sum_le {l:List Nat}{b:Nat}(h:∀x∈l,x≤b):l.sum≤l.length*b:=by
 induction l with
 | nil=>simp
 | cons x r ih =>
   have h1:=h x (List.mem_cons_self ..)
   have h2:=ih (fun y hy=>h y (List.mem_cons_of_mem _ hy))
   rw[List.sum_cons,List.length_cons,Nat.succ_mul];omega
theorem join_br {c:Nat→Nd}{v:ByteArray}(h:CB (.br c v)):(joinB ((List.range 16).map (fun i=>refB (c i).isNil (c i).code)++[textC v])).size≤2000:=by
 rw[joinB_size,List.map_append,List.sum_append,List.map_map]
 have h1:=sum_le (l:=(List.range 16).map (ByteArray.size ∘ fun i=>refB (c i).isNil (c i).code)) (b:=40) (fun x hx=>by
  obtain⟨i,_,rfl⟩:=List.mem_map.1 hx
  exact refB_size _ _)
 have h2:=textC_size v
 have h3:=h.val
 simp only[List.length_map,List.length_range] at h1
 simp only[List.map_cons,List.map_nil,List.sum_cons,List.sum_nil]
 omega
theorem join_two (a b:ByteArray):(joinB [a,b]).size=a.size+b.size:=by rw[joinB_size];simp
theorem code_size {n:Nd}(h:CB n):n.code.size≤3000:=by
 cases n with
 | nil=>exact Nat.zero_le _
 | leaf q v =>
   obtain⟨h1,h2⟩:=h.leaf
   have h3:=headS_size 192 (joinB [pcode true q,textC v])
   rw[join_two] at h3
   have h4:=pcode_size (leaf:=true) h2
   have h5:=textC_size v
   show (headS 192 _).size≤3000
   omega
 | ext q m =>
   have h3:=headS_size 192 (joinB [pcode false q,refB m.isNil m.code])
   rw[join_two] at h3
   have h4:=pcode_size (leaf:=false) (p:=q) h.len.1
   have h5:=refB_size m.isNil m.code
   show (headS 192 _).size≤3000
   omega
 | br c v =>
   have h3:=headS_size 192 (joinB ((List.range 16).map (fun i=>refB (c i).isNil (c i).code)++[textC v]))
   have h4:=join_br h
   show (headS 192 _).size≤3000
   omega
def HkC (n:Nd)(g:ByteArray):Prop:=n≠.nil∧32≤n.code.size∧g=hashOf n.code
theorem HkC.ne:∀n g,HkC n g→n≠.nil:=fun _ _ h=>h.1
theorem nums_same {w:World}{ao:Option Addr}{p q:List Nat}(hp:Nums w ao p)(hq:Nums w ao q)(hl:p.length=q.length):p=q:=by
 apply List.ext_getElem hl
 intro k h1 h2
 obtain⟨b,off,e,hc⟩:=hp.at' k h1
 obtain⟨b', off', e', hc'⟩:=hq.at' k h2
 obtain⟨rfl,rfl⟩:b=b' ∧ off=off' := by rw[e] at e';simpa using e'
 rw[hc] at hc'
 simp only[Option.some.injEq,Value.int.injEq,true_and] at hc'
 simp only[List.getD_eq_getElem?_getD,List.getElem?_eq_getElem h1,List.getElem?_eq_getElem h2,Option.getD_some] at hc'
 omega
theorem code_same {Hk Hk' : Nd→ByteArray→Prop}{ok ok' : Nat→Prop}{w:World}:∀(n m:Nd) (v:Value),NdAt Hk ok w n v→NdAt Hk' ok' w m v→n.isNil=m.isNil∧n.code=m.code
 | .nil,m,v,h,h' => by
   obtain rfl:v=.nilIface:=h
   cases m with
   | nil=>exact⟨rfl,rfl⟩
   | leaf _ _=>obtain⟨_,_,_,e,_⟩:=h';cases e
   | ext _ _=>obtain⟨_,_,_,_,_,e,_⟩:=h';cases e
   | br _ _=>obtain⟨_,_,_,e,_⟩:=h';cases e
 | .leaf p x,m,v,⟨b,ao,cap,e,_,_,hb,hp,_⟩,h' => by
   subst e
   cases m with
   | nil=>cases h'
   | leaf p' x' =>
     obtain⟨b', ao', cap', e', _,_,hb', hp', _⟩:=h'
     obtain rfl:b=b' := by simpa[ptr] using e'
     rw[hb] at hb'
     simp only[Option.some.injEq,Obj.cells.injEq] at hb'
     obtain⟨⟨rfl,hl,_⟩,rfl⟩:(ao=ao' ∧ p.length=p'.length∧cap=cap')∧x=x' := by simpa using hb'.1
     obtain rfl:=nums_same hp hp' hl
     exact⟨rfl,rfl⟩
   | ext _ _=>obtain⟨_,_,_,_,_,e', _⟩:=h';simp at e'
   | br _ _=>obtain⟨_,_,_,e', _⟩:=h';simp at e'
 | .ext p n,m,v,⟨b,ao,cap,u,g,e,_,_,hb,hp,_,_,hn,_⟩,h' => by
   subst e
   cases m with
   | nil=>cases h'
   | leaf _ _=>obtain⟨_,_,_,e', _⟩:=h';simp at e'
   | ext p' n' =>
     obtain⟨b', ao', cap', u', g', e', _,_,hb', hp', _,_,hn', _⟩:=h'
     obtain rfl:b=b' := by simpa[ptr] using e'
     rw[hb] at hb'
     simp only[Option.some.injEq,Obj.cells.injEq] at hb'
     obtain⟨⟨rfl,hl,_⟩,rfl,_⟩:(ao=ao' ∧ p.length=p'.length∧cap=cap')∧u=u' ∧ g=g' := by simpa using hb'.1
     obtain rfl:=nums_same hp hp' hl
     obtain⟨h1,h2⟩:=code_same n n' u hn hn'
     exact⟨rfl,by simp only[Nd.code,h1,h2]⟩
   | br _ _=>obtain⟨_,_,_,e', _⟩:=h';simp at e'
 | .br c x,m,v,⟨b,us,hs,e,_,hb,hc⟩,h' => by
   subst e
   cases m with
   | nil=>cases h'
   | leaf _ _=>obtain⟨_,_,_,e', _⟩:=h';simp at e'
   | ext _ _=>obtain⟨_,_,_,_,_,e', _⟩:=h';simp at e'
   | br c' x' =>
     obtain⟨b', us', hs', e', _,hb', hc'⟩:=h'
     obtain rfl:b=b' := by simpa[ptr] using e'
     have ev:x=x' := by
      have h1:=br_val hb
      have h2:=br_val hb'
      rw[h1] at h2;simpa using h2
     have hk:∀i∈List.range 16,refB (c i).isNil (c i).code=refB (c' i).isNil (c' i).code:=fun i hi=>by
      have hi:=List.mem_range.1 hi
      have h1:=(br_ref hb i hi).1
      have h2:=(br_ref hb' i hi).1
      rw[h1] at h2
      have e:us i=us' i:=by simpa using h2
      have h3:=(hc' i hi).1
      rw[←e] at h3
      obtain⟨k1,k2⟩:=code_same (c i) (c' i) (us i) (hc i hi).1 h3
      rw[k1,k2]
     refine⟨rfl,?_⟩
     subst ev
     simp only[Nd.code]
     rw[List.map_congr_left hk]
theorem brCells_hash (us:Nat→Value)(hs:Nat→ByteArray)(x:ByteArray)(i:Nat)(hi:i<16)(h:ByteArray):(brCells us hs x).setIfInBounds (i*2+1) (.string h)=brCells us (updV hs i h) x:=by
 apply Array.ext_getElem?
 intro j
 by_cases hj:j<33
 ·rw[brCells_get _ _ _ j hj,Array.getElem?_setIfInBounds,brCells_size]
  by_cases c1:i*2+1=j
  ·rw[if_pos c1,if_pos (by omega)]
   unfold brCell updV
   rw[if_neg (by omega),if_neg (by omega),if_pos (by omega)]
  ·rw[if_neg c1,brCells_get _ _ _ j hj]
   unfold brCell updV
   by_cases c3:j=32
   ·rw[if_pos c3,if_pos c3]
   ·rw[if_neg c3,if_neg c3]
    by_cases c4:j % 2=0
    ·rw[if_pos c4,if_pos c4]
    ·rw[if_neg c4,if_neg c4,if_neg (by omega)]
 ·rw[brCells_none _ _ _ j (by omega),Array.getElem?_eq_none (by simp only[Array.size_setIfInBounds,brCells_size];omega)]
structure Turns (w w' : World):Prop where
 num:∀(g o:Nat) (z:Int),w.cell? ⟨g,o,none⟩=some (.int .i64 z)→w'.cell? ⟨g,o,none⟩=some (.int .i64 z)
 leaf:∀(b:Nat) (cs:Array Value),w.heap[b]? = some (.cells cs 199 (0,0))→w'.heap[b]? = some (.cells cs 199 (0,0))
 ext:∀(b:Nat) (s u:Value) (h:ByteArray),w.heap[b]? = some (.cells #[s,u,.string h] 282 (0,0))→∃h', w'.heap[b]? = some (.cells #[s,u,.string h'] 282 (0,0))∧(h' = h∨∀ok n,NdAt HkC ok w n u→HkC n h')
 br:∀(b:Nat) (us:Nat→Value) (hs:Nat→ByteArray) (x:ByteArray),w.heap[b]? = some (.cells (brCells us hs x) 285 (0,0))→∃hs', w'.heap[b]? = some (.cells (brCells us hs' x) 285 (0,0))∧∀i,i<16→hs' i=hs i∨∀ok n,NdAt HkC ok w n (us i)→HkC n (hs' i)
theorem Turns.nums {w w' : World}(h:Turns w w'){ao:Option Addr}{p:List Nat}(hp:Nums w ao p):Nums w' ao p:=⟨hp.spot,fun k hk=>by
 obtain⟨b,off,e,hc⟩:=hp.at' k hk
 exact⟨b,off,e,h.num _ _ _ hc⟩⟩
theorem Turns.node {w w' : World}(h:Turns w w'):∀(ok:Nat→Prop) (m:Nd) (v:Value),NdAt HkC ok w m v→NdAt HkC ok w' m v
 | _,.nil,_,hn=>hn
 | _,.leaf _ _,_,⟨b,ao,cap,h1,o1,o2,h2,h3,h4⟩=>⟨b,ao,cap,h1,o1,o2,h.leaf _ _ h2,h.nums h3,h4⟩
 | ok,.ext q n,_,⟨b,ao,cap,u,g,h1,o1,o2,h2,h3,h4,h5,h6,h7⟩=>by
   obtain⟨g', e1,e2⟩:=h.ext b _ u g h2
   refine⟨b,ao,cap,u,g', h1,o1,o2,e1,h.nums h3,h4,h5,Turns.node h ok n u h6,?_⟩
   rcases e2 with rfl|e2
   ·exact h7
   ·exact .inr (e2 ok n h6)
 | ok,.br c x,_,⟨b,us,hs,h1,o1,h2,h3⟩=>by
   obtain⟨hs', e1,e2⟩:=h.br b us hs x h2
   refine⟨b,us,hs', h1,o1,e1,fun i hi=>⟨Turns.node h ok (c i) (us i) (h3 i hi).1,?_⟩⟩
   rcases e2 i hi with e|e
   ·rw[e];exact (h3 i hi).2
   ·have:=e ok (c i) (h3 i hi).1
    exact .inr ⟨this.1,this⟩
structure KeepH (ok:Nat→Prop)(w w' : World):Prop where
 os:w'.os=w.os
 tape:w'.tape=w.tape
 output:w'.output=w.output
 size:w.heap.size≤w'.heap.size
 far:∀(k:Nat),k<w.heap.size→¬ok k→w'.heap[k]? = w.heap[k]?
 other:∀(k:Nat) (o:Obj),w.heap[k]? = some o→(∀cs t fr,o=.cells cs t fr→t≠282∧t≠285)→w'.heap[k]? = some o
 ext:∀(b:Nat) (s u:Value) (h:ByteArray),w.heap[b]? = some (.cells #[s,u,.string h] 282 (0,0))→∃h', w'.heap[b]? = some (.cells #[s,u,.string h'] 282 (0,0))
 br:∀(b:Nat) (us:Nat→Value) (hs:Nat→ByteArray) (x:ByteArray),w.heap[b]? = some (.cells (brCells us hs x) 285 (0,0))→∃hs', w'.heap[b]? = some (.cells (brCells us hs' x) 285 (0,0))
 node:∀(ok' : Nat→Prop) (m:Nd) (v:Value),NdAt HkC ok' w m v→NdAt HkC ok' w' m v
theorem KeepH.of_below {ok:Nat→Prop}{w w' : World}(h:Below w.heap.size w w'):KeepH ok w w' :=
 ⟨h.os,h.tape,h.output,h.size,fun k hk _=>h.block k hk,fun k o ho _=>by rw[h.block k (aGe.1 ho).1];exact ho,fun b s u g hb=>⟨g,(h.block b (aGe.1 hb).1).trans hb⟩,fun b us hs x hb=>⟨hs,(h.block b (aGe.1 hb).1).trans hb⟩,fun ok' m v hn=>hn.keep h⟩
theorem KeepH.trans {ok:Nat→Prop}{w w1 w2:World}(h:KeepH ok w w1)(h2:KeepH ok w1 w2):KeepH ok w w2 where
 os:=h2.os.trans h.os
 tape:=h2.tape.trans h.tape
 output:=h2.output.trans h.output
 size:=Nat.le_trans h.size h2.size
 far:=fun k hk hn=>(h2.far k (Nat.lt_of_lt_of_le hk h.size) hn).trans (h.far k hk hn)
 other:=fun k o ho ht=>h2.other k o (h.other k o ho ht) ht
 ext:=fun b s u g hb=>by obtain⟨g1,e1⟩:=h.ext b s u g hb;exact h2.ext b s u g1 e1
 br:=fun b us hs x hb=>by obtain⟨hs1,e1⟩:=h.br b us hs x hb;exact h2.br b us hs1 x e1
 node:=fun ok' m v hn=>h2.node ok' m v (h.node ok' m v hn)
theorem KeepH.below {ok:Nat→Prop}{w w' : World}(h:KeepH ok w w'){B:Nat}(hB:B≤w.heap.size)(hok:∀k,ok k→B≤k):Below B w w' := ⟨h.os,h.tape,h.output,h.size,fun k hk=>h.far k (by omega) (fun e=>by have:=hok k e;omega)⟩
theorem KeepH.after {ok:Nat→Prop}{w w2 w4:World}(h:KeepH ok w w2)(hb:Below w.heap.size w2 w4):KeepH ok w w4 where
 os:=hb.os.trans h.os
 tape:=hb.tape.trans h.tape
 output:=hb.output.trans h.output
 size:=Nat.le_trans h.size hb.size
 far:=fun k hk hn=>(hb.block k hk).trans (h.far k hk hn)
 other:=fun k o ho ht=>(hb.block k (aGe.1 ho).1).trans (h.other k o ho ht)
 ext:=fun b s u g hg=>by
  obtain⟨g1,e1⟩:=h.ext b s u g hg
  exact⟨g1,(hb.block b (aGe.1 hg).1).trans e1⟩
 br:=fun b us hs x hg=>by
  obtain⟨g1,e1⟩:=h.br b us hs x hg
  exact⟨g1,(hb.block b (aGe.1 hg).1).trans e1⟩
 node:=fun ok' m v hn=>by
  have h1:=NdAt.both _ _ hn (NdAt.lt _ _ hn)
  have h2:=h.node _ _ _ h1
  exact NdAt.mono (fun k hk=>hk.1) _ _ (NdAt.keepIn (fun k hk _=>hb.block k hk.2) _ _ h2)
theorem cell_other {w:World}{b j:Nat}{u:Value}{g o:Nat}(h:g=b→o=j→False):(w.setCell ⟨b,j,none⟩ u).cell? ⟨g,o,none⟩=w.cell? ⟨g,o,none⟩:=by
 by_cases e:g=b
 ·subst e
  refine World.cell?_setCell_other w _ (a:=⟨g,j,none⟩) (b:=⟨g,o,none⟩) (fun e=>h rfl ?_)
  injection e with _ e;exact e.symm
 ·exact World.cell?_of_block (w:=w) (a:=⟨g,o,none⟩) (Below.heap_setCell _ _ _ _ (fun e2=>e e2))
theorem setHash_ext {ok:Nat→Prop}{w:World}{b:Nat}{s u:Value}{h g:ByteArray}(hb:w.heap[b]? = some (.cells #[s,u,.string h] 282 (0,0)))(hok:ok b)(hg:∀ok n,NdAt HkC ok w n u→HkC n g):KeepH ok w (w.setCell ⟨b,2,none⟩ (.string g)):=by
 have hs:(w.setCell ⟨b,2,none⟩ (.string g)).heap[b]? = some (.cells #[s,u,.string g] 282 (0,0)):=heap_setCell_same w b 2 _ 282 (.string g) hb
 have ho:∀k,k≠b→(w.setCell ⟨b,2,none⟩ (.string g)).heap[k]? = w.heap[k]?:=fun k hk=>Below.heap_setCell _ _ _ _ (fun e=>hk e)
 have hT:Turns w (w.setCell ⟨b,2,none⟩ (.string g)):=by
  refine⟨fun a o z hc=>?_,fun k cs hk=>?_,fun k s' u' h' hk=>?_,fun k us hs' x hk=>?_⟩
  ·rw[cell_other]
   ·exact hc
   ·rintro rfl rfl
    rw[cell_of_row _ _ 2 _ _ (0,0) hb] at hc
    simp at hc
  ·by_cases e:k=b
   ·subst e
    rw[hb] at hk;simp at hk
   ·exact (ho k e).trans hk
  ·by_cases e:k=b
   ·subst e
    rw[hb] at hk
    simp only[Option.some.injEq,Obj.cells.injEq] at hk
    obtain⟨rfl,rfl,_⟩:s=s' ∧ u=u' ∧ h=h' := by simpa using hk.1
    exact⟨g,hs,.inr hg⟩
   ·exact⟨h', (ho k e).trans hk,.inl rfl⟩
  ·by_cases e:k=b
   ·subst e
    rw[hb] at hk;simp at hk
   ·exact⟨hs', (ho k e).trans hk,fun i _=>.inl rfl⟩
 refine⟨rfl,rfl,rfl,by simp[World.setCell],fun k _ hn=>ho k (fun e=>hn (by rw[e];exact hok)),fun k o hk ht=>?_,fun k s' u' h' hk=>?_,fun k us hs' x hk=>?_,hT.node⟩
 ·by_cases e:k=b
  ·subst e
   rw[hb] at hk
   injection hk with hk
   exact absurd rfl (ht _ _ _ hk.symm).1
  ·exact (ho k e).trans hk
 ·obtain⟨h1,e1,_⟩:=hT.ext k s' u' h' hk;exact⟨h1,e1⟩
 ·obtain⟨h1,e1,_⟩:=hT.br k us hs' x hk;exact⟨h1,e1⟩
theorem brCells_inj {us us' : Nat→Value}{hs hs' : Nat→ByteArray}{x x' : ByteArray}(h:brCells us hs x=brCells us' hs' x'):(∀i,i<16→us i=us' i∧hs i=hs' i)∧x=x' := by
 have hj:∀j,j<33→brCell us hs x j=brCell us' hs' x' j:=fun j hj=>by
  have h1:=brCells_get us hs x j hj
  rw[h,brCells_get us' hs' x' j hj] at h1
  simpa using h1.symm
 refine⟨fun i hi=>⟨?_,?_⟩,?_⟩
 ·have:=hj (i*2) (by omega)
  unfold brCell at this
  rwa [if_neg (by omega),if_pos (by omega),if_neg (by omega),if_pos (by omega),show i*2 / 2=i from by omega] at this
 ·have:=hj (i*2+1) (by omega)
  unfold brCell at this
  rw[if_neg (by omega),if_neg (by omega),if_neg (by omega),if_neg (by omega),show (i*2+1) / 2=i from by omega] at this
  simpa using this
 ·have:=hj 32 (by omega)
  simpa[brCell] using this
theorem setHash_br {ok:Nat→Prop}{w:World}{b:Nat}{us:Nat→Value}{hs:Nat→ByteArray}{x g:ByteArray}{i:Nat}(hi:i<16)(hb:w.heap[b]? = some (.cells (brCells us hs x) 285 (0,0)))(hok:ok b)(hg:∀ok n,NdAt HkC ok w n (us i)→HkC n g):KeepH ok w (w.setCell ⟨b,i*2+1,none⟩ (.string g))∧(w.setCell ⟨b,i*2+1,none⟩ (.string g)).heap[b]? = some (.cells (brCells us (updV hs i g) x) 285 (0,0)):=by
 have hsn:(w.setCell ⟨b,i*2+1,none⟩ (.string g)).heap[b]? = some (.cells (brCells us (updV hs i g) x) 285 (0,0)):=by
  rw[heap_setCell_same w b (i*2+1) _ 285 (.string g) hb,brCells_hash us hs x i hi]
 have ho:∀k,k≠b→(w.setCell ⟨b,i*2+1,none⟩ (.string g)).heap[k]? = w.heap[k]?:=fun k hk=>Below.heap_setCell _ _ _ _ (fun e=>hk e)
 have hT:Turns w (w.setCell ⟨b,i*2+1,none⟩ (.string g)):=by
  refine⟨fun a o z hc=>?_,fun k cs hk=>?_,fun k s' u' h' hk=>?_,fun k us' hs' x' hk=>?_⟩
  ·rw[cell_other]
   ·exact hc
   ·rintro rfl rfl
    rw[(br_ref hb i hi).2] at hc
    simp at hc
  ·by_cases e:k=b
   ·subst e
    rw[hb] at hk;simp at hk
   ·exact (ho k e).trans hk
  ·by_cases e:k=b
   ·subst e
    rw[hb] at hk;simp at hk
   ·exact⟨h', (ho k e).trans hk,.inl rfl⟩
  ·by_cases e:k=b
   ·subst e
    rw[hb] at hk
    simp only[Option.some.injEq,Obj.cells.injEq] at hk
    obtain⟨k1,k2⟩:=brCells_inj hk.1
    have heq:brCells us (updV hs i g) x=brCells us' (updV hs' i g) x' := by
     apply Array.ext_getElem?
     intro j
     by_cases hj:j<33
     ·rw[brCells_get _ _ _ j hj,brCells_get _ _ _ j hj]
      unfold brCell
      by_cases c3:j=32
      ·rw[if_pos c3,if_pos c3,k2]
      ·rw[if_neg c3,if_neg c3]
       have:=k1 (j / 2) (by omega)
       by_cases c4:j % 2=0
       ·rw[if_pos c4,if_pos c4,this.1]
       ·rw[if_neg c4,if_neg c4]
        unfold updV
        split
        ·rfl
        ·rw[this.2]
     ·rw[brCells_none _ _ _ j (by omega),brCells_none _ _ _ j (by omega)]
    refine⟨updV hs' i g,by rw[hsn,heq],fun j hj=>?_⟩
    unfold updV
    split
    ·rename_i e;subst e
     rw[←(k1 j hj).1]
     exact .inr hg
    ·exact .inl rfl
   ·exact⟨hs', (ho k e).trans hk,fun i _=>.inl rfl⟩
 refine⟨⟨rfl,rfl,rfl,by simp[World.setCell],fun k _ hn=>ho k (fun e=>hn (by rw[e];exact hok)),fun k o hk ht=>?_,fun k s' u' h' hk=>?_,fun k us hs' x hk=>?_,hT.node⟩,hsn⟩
 ·by_cases e:k=b
  ·subst e
   rw[hb] at hk
   injection hk with hk
   exact absurd rfl (ht _ _ _ hk.symm).2
  ·exact (ho k e).trans hk
 ·obtain⟨h1,e1,_⟩:=hT.ext k s' u' h' hk;exact⟨h1,e1⟩
 ·obtain⟨h1,e1,_⟩:=hT.br k us hs' x hk;exact⟨h1,e1⟩
end Go.Proofs.YthdjmldddjljfaaGreatDoor
namespace Go.Proofs.YthdjmldddjljfaaGreatDoor
open Go.RowKit
attribute [local go_sem ↓] Go.wp_at_zero Go.wp_at_succ
structure TbZ (w:World):Prop where
 tabs:Tabs w
 three:3≤w.heap.size
theorem TbZ.keepH {ok:Nat→Prop}{w w' : World}(h:TbZ w)(hk:KeepH ok w w')(hok:∀k,ok k→3≤k):TbZ w' := by
 have h3:=h.three
 refine⟨⟨fun j hj=>?_,fun j hj=>?_⟩,Nat.le_trans h3 hk.size⟩
 ·exact (World.cell?_of_block (w:=w) (a:=⟨0,j,none⟩) (hk.far _ (by show 0 < _;omega) (fun e=>by have h:3≤0:=hok _ e;omega))).trans (h.tabs.rcs j hj)
 ·exact (World.cell?_of_block (w:=w) (a:=⟨1,j,none⟩) (hk.far _ (by show 1 < _;omega) (fun e=>by have h:3≤1:=hok _ e;omega))).trans (h.tabs.tus j hj)
theorem TbZ.keep {w w' : World}(h:TbZ w)(hb:Below w.heap.size w w'):TbZ w' := h.keepH (ok:=fun _=>False) (KeepH.of_below hb) (fun _ h=>h.elim)
theorem sumZ_any (s:ByteArray)(w:World)(hT:TbZ w)(hs:s.size≤9223372036854775000):Calls Tryz.prog 47 #[.string s] w fun e w' => e=.returned (.string (hashOf s))∧Below w.heap.size w w' := by
 refine (sum_any s w hT.tabs hT.three hs).mono ?_
 rintro e w' ⟨rfl,h⟩
 exact⟨rfl,⟨h.os,h.tape,h.output,h.size,fun k hk=>h.block k hk (fun e=>by cases e)⟩⟩
theorem pathCode_any (ao:Option Addr)(cap:Nat)(p:List Nat)(leaf:Bool)(w:World)(hp:Nums w ao p)(h0:ao=none→cap=0)(hl:p.length≤128)(h16:∀x∈p,x<16) :
  Calls Tryz.prog 211 #[.slice ao p.length cap,.bool leaf] w fun e w' => e=.returned (.string (pcode leaf p))∧Below w.heap.size w w' := by
 have HP:=hide (pPack_good ao cap (intsOf p) leaf w hp.ints h0 (isP_path hl h16))
 rw[show (intsOf p).length=p.length from by simp[intsOf]] at HP
 have HT:=hide (fun W=>textCode_any (codeOf leaf (intsOf p)) W (by
  have h2:(codeOf leaf (intsOf p)).size≤130:=by
   unfold codeOf
   rw[strOfNums_size]
   refine Nat.le_trans (pairUp_len _) ?_
   unfold halvesOf intsOf
   split<;>simp<;>omega
  omega))
 have HE:Hid (textC (codeOf leaf (intsOf p))=pcode leaf p):=rfl
 rw[HE.out] at HT
 clear hp h0
 generalize pcode leaf p=C at *
 generalize codeOf leaf (intsOf p)=D at *
 go_enter Tryz.func211,Tryz.ntmps211
 go_wp2_with fail
 refine HP.out.mono ?_
 rintro e w1 ⟨rfl,hb1⟩
 have HB1:=hide hb1
 clear hb1
 go_wp2_with fail
 refine (HT.out _).mono ?_
 rintro e w2 ⟨rfl,hb2⟩
 go_wp2
 go_ret
 exact⟨rfl,HB1.out.trans (hb2.mono HB1.out.size)⟩
theorem strs_at (W:World)(a c:ByteArray):∀(j:Nat) (x:ByteArray),[a,c][j]? = some x→(W.alloc (.cells #[.string a,.string c] 9)).cell? ⟨W.heap.size,0+j,none⟩=some (.string x):=fun j x hx=>by
 rw[Nat.zero_add,cell_of_row _ _ j _ _ (0,0) (heap_alloc_new W _)]
 match j,hx with
 | 0,hx=>simp at hx;simp[hx]
 | 1,hx=>simp at hx;simp[hx]
 | j+2,hx=>simp at hx
theorem listTwo (a c:ByteArray)(W:World)(h:a.size+c.size<16777216):Calls Tryz.prog 210 #[.slice (some ⟨W.heap.size,0,none⟩) 2 2] (W.alloc (.cells #[.string a,.string c] 9)) fun e w' => e=.returned (.string (listC [a,c]))∧Below W.heap.size W w' := by
 have h1:=listCode_any W.heap.size 0 2 [a,c] (W.alloc (.cells #[.string a,.string c] 9)) (strs_at W a c) (by simp) (by simp) (by rw[join_two];exact h)
 refine h1.mono ?_
 rintro e w' ⟨rfl,hb⟩
 exact⟨rfl,(below_alloc W _).trans (hb.mono (by simp))⟩
theorem leafCode_any (Hk:Nd→ByteArray→Prop)(ok:Nat→Prop)(b:Nat)(q:List Nat)(v:ByteArray)(w:World)(hn:NdAt Hk ok w (.leaf q v) (.iface 153 (ptr b)))(hC:CB (.leaf q v)) :
  Calls Tryz.prog 205 #[ptr b] w fun e w' => e=.returned (.string (Nd.leaf q v).code)∧Below w.heap.size w w' := by
 obtain⟨b', ao,cap,hb', _,_,hb,hq,h0,hc⟩:=hn
 obtain rfl:b=b' := by simpa[ptr] using hb'
 obtain⟨hv,hql⟩:=hC.leaf
 have hbl:=(aGe.1 hb).1
 have HCl:Hid (∀W,Below w.heap.size w W→W.cell? ⟨b,0,none⟩=some (.slice ao q.length cap)∧W.cell? ⟨b,1,none⟩=some (.string v)):=fun W hW =>
  ⟨(hW.cell (p:=⟨b,0,none⟩) hbl).trans (cell_of_row w b 0 _ _ (0,0) hb),(hW.cell (p:=⟨b,1,none⟩) hbl).trans (cell_of_row w b 1 _ _ (0,0) hb)⟩
 have HPc:Hid (∀W,Below w.heap.size w W→Calls Tryz.prog 211 #[.slice ao q.length cap,.bool true] W fun e w' => e=.returned (.string (pcode true q))∧Below w.heap.size w w'):=fun W hW=>by
  refine (pathCode_any ao cap q true W (hq.keep hW (Nat.le_refl _)) h0 hql hC.wf.2).mono ?_
  rintro e w' ⟨rfl,h⟩
  exact⟨rfl,hW.trans (h.mono hW.size)⟩
 have HTc:Hid (∀W,Below w.heap.size w W→Calls Tryz.prog 86 #[.string v] W fun e w' => e=.returned (.string (textC v))∧Below w.heap.size w w'):=fun W hW=>by
  refine (textCode_any v W (by omega)).mono ?_
  rintro e w' ⟨rfl,h⟩
  exact⟨rfl,hW.trans (h.mono hW.size)⟩
 have HLc:Hid (∀W,Below w.heap.size w W→Calls Tryz.prog 210 #[.slice (some ⟨W.heap.size,0,none⟩) 2 2] (W.alloc (.cells #[.string (pcode true q),.string (textC v)] 9)) fun e w' => e=.returned (.string (Nd.leaf q v).code)∧Below w.heap.size w w'):=fun W hW=>by
  have h1:=pcode_size (leaf:=true) hql
  have h2:=textC_size v
  refine (listTwo (pcode true q) (textC v) W (by omega)).mono ?_
  rintro e w' ⟨rfl,h⟩
  exact⟨rfl,hW.trans (h.mono hW.size)⟩
 obtain⟨c0,c1⟩:=HCl.out w (Below.refl _ _)
 clear hb hq h0 hc hC hb' hv hql
 generalize (Nd.leaf q v).code=C at *
 generalize pcode true q=P1 at *
 generalize textC v=P2 at *
 unfold ptr
 go_enter Tryz.func205,Tryz.ntmps205
 go_wp2_with fail
 go_region_held3 (fun W=>W.cell? ⟨b,0,none⟩=some (.slice ao q.length cap)∧W.cell? ⟨b,1,none⟩=some (.string v)) (first|go_keep|(simp[*])) ((first
  | (go_at_call 211;refine (HPc.out _ (by first|exact (Below.refl _ _).drew|exact HB3.out)).mono ?_;rintro e w2 ⟨rfl,hb2⟩;(have HB2:=hide hb2);(obtain⟨d0,d1⟩:=HCl.out w2 hb2);clear hb2)
  | (go_at_call 86;refine (HTc.out _ (by first|exact (Below.refl _ _).drew|exact HB2.out)).mono ?_;rintro e w3 ⟨rfl,hb3⟩;(have HB3:=hide hb3);(obtain⟨i0,i1⟩:=HCl.out w3 hb3);clear hb3)
  | (go_at_call 210;(first|refine (HLc.out w3 HB3.out).mono ?_|refine (HLc.out w2 HB2.out).mono ?_);rintro e w4 ⟨rfl,hb4⟩;(have HB4:=hide hb4);(obtain⟨j0,j1⟩:=HCl.out w4 hb4);clear hb4)))
 all_goals
  go_wp2
  go_ret
  exact⟨rfl,by first|exact HB4.out|exact HB4.out.drew⟩
theorem meth_co_leaf (b : Nat) (w : World) : (method 438 153 (ptr b) "canopy/tree.code").run Tryz.prog w = .ok (205, ptr b) w := by kernel_rfl
theorem meth_co_ext (b : Nat) (w : World) : (method 438 250 (ptr b) "canopy/tree.code").run Tryz.prog w = .ok (229, ptr b) w := by kernel_rfl
theorem meth_co_br (b : Nat) (w : World) : (method 438 252 (ptr b) "canopy/tree.code").run Tryz.prog w = .ok (237, ptr b) w := by kernel_rfl
structure Slot (ok:Nat→Prop)(w:World)(b off:Nat)(u:Value)(h:ByteArray):Prop where
 node:w.cell? ⟨b,off,none⟩=some u
 hash:w.cell? ⟨b,off+1,none⟩=some (.string h)
 set:∀W,KeepH ok w W→W.cell? ⟨b,off,none⟩=some u∧(∃h1,W.cell? ⟨b,off+1,none⟩=some (.string h1))∧W.frozen? ⟨b,off+1,none⟩=false∧∀g,(∀ok n,NdAt HkC ok W n u→HkC n g)→KeepH ok W (W.setCell ⟨b,off+1,none⟩ (.string g))
theorem refCode_nil (b off:Nat)(w:World)(h0:w.cell? ⟨b,off,none⟩=some .nilIface)(h1:w.cell? ⟨b,off+1,none⟩=some (.string e0)) :
  Calls Tryz.prog 228 #[.pointer (some ⟨b,off,none⟩)] w fun e w' => e=.returned (.string (textC e0))∧Below w.heap.size w w' := by
 have HE:=hide (isEmpty_yes b off w h0 h1)
 have HT:=hide (fun W=>textCode_any e0 W (by show 0 < 16777216;omega))
 generalize textC e0=C at *
 go_enter Tryz.func228,Tryz.ntmps228
 go_wp2_with fail
 refine HE.out.mono ?_
 rintro e w1 ⟨rfl,rfl⟩
 go_wp2_with fail
 refine (HT.out _).mono ?_
 rintro e w2 ⟨rfl,hb2⟩
 go_wp2
 go_ret
 exact⟨rfl,hb2⟩
theorem refCode_hash (n:Nd)(b off:Nat)(t:TypeId)(ub:Nat)(h:ByteArray)(w:World)(h0:w.cell? ⟨b,off,none⟩=some (.iface t (ptr ub)))(h1:w.cell? ⟨b,off+1,none⟩=some (.string h))(hh:HkC n h) :
  Calls Tryz.prog 228 #[.pointer (some ⟨b,off,none⟩)] w fun e w' => e=.returned (.string (refB n.isNil n.code))∧Below w.heap.size w w' := by
 have HE:=hide (isEmpty_no b off t ub w h0)
 have hsz:h.size=32:=by rw[hh.2.2,hashOf_size]
 have HT:=hide (fun W=>textCode_any h W (by omega))
 have HC:Hid (textC h=refB n.isNil n.code):=by
  show _=_
  unfold refB
  rw[if_neg (by rw[isNil_iff];exact hh.1),if_neg (by have:=hh.2.1;omega),hh.2.2]
 rw[HC.out] at HT
 have hne:=isEmptyV (s:=h) (by omega)
 clear hh HC
 generalize refB n.isNil n.code=C at *
 unfold ptr at *
 go_enter Tryz.func228,Tryz.ntmps228
 go_wp2_with fail
 refine HE.out.mono ?_
 rintro e w1 ⟨rfl,rfl⟩
 go_wp2_with fail
 refine (HT.out _).mono ?_
 rintro e w2 ⟨rfl,hb2⟩
 go_wp2
 go_ret
 exact⟨rfl,hb2⟩
theorem refCode_leaf (ok:Nat→Prop)(n:Nd)(b off ub:Nat)(w:World)(hT:TbZ w)(hok:∀k,ok k→3≤k)(hS:Slot ok w b off (.iface 153 (ptr ub)) e0)(hn:NdAt HkC ok w n (.iface 153 (ptr ub)))(hC:CB n)
  (hc:Calls Tryz.prog 205 #[ptr ub] w fun e w' => e=.returned (.string n.code)∧KeepH ok w w') :
  Calls Tryz.prog 228 #[.pointer (some ⟨b,off,none⟩)] w fun e w' => e=.returned (.string (refB n.isNil n.code))∧KeepH ok w w' := by
 have HE:=hide (isEmpty_no b off 153 ub w hS.node)
 have hnn:n≠.nil:=fun e=>by rw[e] at hn;cases hn
 have hcs:=code_size hC
 have HCC:=hide hc
 have HSet:=hide hS.set
 have HTb:Hid (∀W,KeepH ok w W→TbZ W):=fun W h=>hT.keepH h hok
 have HN:Hid (∀W,KeepH ok w W→NdAt HkC ok W n (.iface 153 (ptr ub))):=fun W h=>h.node ok n _ hn
 have c0:=hS.node
 have c1:=hS.hash
 have hme:=meth_co_leaf
 have HRef:Hid ((n.code.size<32→n.code=refB n.isNil n.code)∧(¬n.code.size<32→textC (hashOf n.code)=refB n.isNil n.code)):=by
  constructor
  ·intro h;unfold refB;rw[if_neg (by rw[isNil_iff];exact hnn),if_pos h]
  ·intro h;unfold refB;rw[if_neg (by rw[isNil_iff];exact hnn),if_neg h]
 have HHk:Hid (¬n.code.size<32→∀W,KeepH ok w W→∀ok' m,NdAt HkC ok' W m (.iface 153 (ptr ub))→HkC m (hashOf n.code)):=fun h W hW ok' m hm=>by
  obtain⟨k1,k2⟩:=code_same m n _ hm (hW.node ok n _ hn)
  refine⟨fun e=>?_,by rw[k2];omega,by rw[k2]⟩
  rw[e] at k1
  exact hnn ((isNil_iff n).1 k1.symm)
 clear hT hS hn hC hc hnn
 generalize refB n.isNil n.code=R at *
 generalize n.code=C at *
 unfold ptr at *
 go_enter Tryz.func228,Tryz.ntmps228
 go_wp2_with fail
 refine HE.out.mono ?_
 rintro e w1 ⟨rfl,hw1⟩
 rw[hw1]
 clear hw1
 go_wp2_with fail
 refine HCC.out.mono ?_
 rintro e w2 ⟨rfl,hk2⟩
 have HK2:=hide hk2
 clear hk2
 by_cases h32:C.size<32
 ·have i1:(C.size:Int)<32:=by omega
  have HR:=hide (HRef.out.1 h32)
  clear h32
  go_wp2
  go_ret
  exact⟨by rw[←HR.out];rfl,HK2.out⟩
 ·have i1:(32:Int)≤(C.size:Int):=by omega
  have HR:=hide (HRef.out.2 h32)
  have HH:=hide (HHk.out h32)
  have HSm:=hide (sumZ_any C w2 (HTb.out w2 HK2.out) (by omega))
  clear h32
  go_wp2_with fail
  refine HSm.out.mono ?_
  rintro e w3 ⟨rfl,hb3⟩
  have HK3:Hid (KeepH ok w w3):=HK2.out.trans (KeepH.of_below hb3)
  clear hb3
  obtain⟨z0,⟨h1,z1⟩,z2,z3⟩:=HSet.out w3 HK3.out
  have HK4:Hid (KeepH ok w (w3.setCell ⟨b,off+1,none⟩ (.string (hashOf C)))):=HK3.out.trans (z3 _ (HH.out w3 HK3.out))
  have z4:(w3.setCell ⟨b,off+1,none⟩ (.string (hashOf C))).cell? ⟨b,off+1,none⟩=some (.string (hashOf C)):=World.cell?_setCell_same _ _ _ z1
  have HT4:=hide (fun W=>textCode_any (hashOf C) W (by rw[hashOf_size];omega))
  rw[HR.out] at HT4
  clear z3
  generalize hashOf C=G at *
  go_wp2_with fail
  refine (HT4.out _).mono ?_
  rintro e w5 ⟨rfl,hb5⟩
  go_wp2
  go_ret
  exact⟨rfl,HK4.out.trans (KeepH.of_below hb5)⟩
theorem refCode_ext (ok:Nat→Prop)(n:Nd)(b off ub:Nat)(w:World)(hT:TbZ w)(hok:∀k,ok k→3≤k)(hS:Slot ok w b off (.iface 250 (ptr ub)) e0)(hn:NdAt HkC ok w n (.iface 250 (ptr ub)))(hC:CB n)
  (hc:Calls Tryz.prog 229 #[ptr ub] w fun e w' => e=.returned (.string n.code)∧KeepH ok w w') :
  Calls Tryz.prog 228 #[.pointer (some ⟨b,off,none⟩)] w fun e w' => e=.returned (.string (refB n.isNil n.code))∧KeepH ok w w' := by
 have HE:=hide (isEmpty_no b off 250 ub w hS.node)
 have hnn:n≠.nil:=fun e=>by rw[e] at hn;cases hn
 have hcs:=code_size hC
 have HCC:=hide hc
 have HSet:=hide hS.set
 have HTb:Hid (∀W,KeepH ok w W→TbZ W):=fun W h=>hT.keepH h hok
 have HN:Hid (∀W,KeepH ok w W→NdAt HkC ok W n (.iface 250 (ptr ub))):=fun W h=>h.node ok n _ hn
 have c0:=hS.node
 have c1:=hS.hash
 have hme:=meth_co_ext
 have HRef:Hid ((n.code.size<32→n.code=refB n.isNil n.code)∧(¬n.code.size<32→textC (hashOf n.code)=refB n.isNil n.code)):=by
  constructor
  ·intro h;unfold refB;rw[if_neg (by rw[isNil_iff];exact hnn),if_pos h]
  ·intro h;unfold refB;rw[if_neg (by rw[isNil_iff];exact hnn),if_neg h]
 have HHk:Hid (¬n.code.size<32→∀W,KeepH ok w W→∀ok' m,NdAt HkC ok' W m (.iface 250 (ptr ub))→HkC m (hashOf n.code)):=fun h W hW ok' m hm=>by
  obtain⟨k1,k2⟩:=code_same m n _ hm (hW.node ok n _ hn)
  refine⟨fun e=>?_,by rw[k2];omega,by rw[k2]⟩
  rw[e] at k1
  exact hnn ((isNil_iff n).1 k1.symm)
 clear hT hS hn hC hc hnn
 generalize refB n.isNil n.code=R at *
 generalize n.code=C at *
 unfold ptr at *
 go_enter Tryz.func228,Tryz.ntmps228
 go_wp2_with fail
 refine HE.out.mono ?_
 rintro e w1 ⟨rfl,hw1⟩
 rw[hw1]
 clear hw1
 go_wp2_with fail
 refine HCC.out.mono ?_
 rintro e w2 ⟨rfl,hk2⟩
 have HK2:=hide hk2
 clear hk2
 by_cases h32:C.size<32
 ·have i1:(C.size:Int)<32:=by omega
  have HR:=hide (HRef.out.1 h32)
  clear h32
  go_wp2
  go_ret
  exact⟨by rw[←HR.out];rfl,HK2.out⟩
 ·have i1:(32:Int)≤(C.size:Int):=by omega
  have HR:=hide (HRef.out.2 h32)
  have HH:=hide (HHk.out h32)
  have HSm:=hide (sumZ_any C w2 (HTb.out w2 HK2.out) (by omega))
  clear h32
  go_wp2_with fail
  refine HSm.out.mono ?_
  rintro e w3 ⟨rfl,hb3⟩
  have HK3:Hid (KeepH ok w w3):=HK2.out.trans (KeepH.of_below hb3)
  clear hb3
  obtain⟨z0,⟨h1,z1⟩,z2,z3⟩:=HSet.out w3 HK3.out
  have HK4:Hid (KeepH ok w (w3.setCell ⟨b,off+1,none⟩ (.string (hashOf C)))):=HK3.out.trans (z3 _ (HH.out w3 HK3.out))
  have z4:(w3.setCell ⟨b,off+1,none⟩ (.string (hashOf C))).cell? ⟨b,off+1,none⟩=some (.string (hashOf C)):=World.cell?_setCell_same _ _ _ z1
  have HT4:=hide (fun W=>textCode_any (hashOf C) W (by rw[hashOf_size];omega))
  rw[HR.out] at HT4
  clear z3
  generalize hashOf C=G at *
  go_wp2_with fail
  refine (HT4.out _).mono ?_
  rintro e w5 ⟨rfl,hb5⟩
  go_wp2
  go_ret
  exact⟨rfl,HK4.out.trans (KeepH.of_below hb5)⟩
theorem refCode_br (ok:Nat→Prop)(n:Nd)(b off ub:Nat)(w:World)(hT:TbZ w)(hok:∀k,ok k→3≤k)(hS:Slot ok w b off (.iface 252 (ptr ub)) e0)(hn:NdAt HkC ok w n (.iface 252 (ptr ub)))(hC:CB n)
  (hc:Calls Tryz.prog 237 #[ptr ub] w fun e w' => e=.returned (.string n.code)∧KeepH ok w w') :
  Calls Tryz.prog 228 #[.pointer (some ⟨b,off,none⟩)] w fun e w' => e=.returned (.string (refB n.isNil n.code))∧KeepH ok w w' := by
 have HE:=hide (isEmpty_no b off 252 ub w hS.node)
 have hnn:n≠.nil:=fun e=>by rw[e] at hn;cases hn
 have hcs:=code_size hC
 have HCC:=hide hc
 have HSet:=hide hS.set
 have HTb:Hid (∀W,KeepH ok w W→TbZ W):=fun W h=>hT.keepH h hok
 have HN:Hid (∀W,KeepH ok w W→NdAt HkC ok W n (.iface 252 (ptr ub))):=fun W h=>h.node ok n _ hn
 have c0:=hS.node
 have c1:=hS.hash
 have hme:=meth_co_br
 have HRef:Hid ((n.code.size<32→n.code=refB n.isNil n.code)∧(¬n.code.size<32→textC (hashOf n.code)=refB n.isNil n.code)):=by
  constructor
  ·intro h;unfold refB;rw[if_neg (by rw[isNil_iff];exact hnn),if_pos h]
  ·intro h;unfold refB;rw[if_neg (by rw[isNil_iff];exact hnn),if_neg h]
 have HHk:Hid (¬n.code.size<32→∀W,KeepH ok w W→∀ok' m,NdAt HkC ok' W m (.iface 252 (ptr ub))→HkC m (hashOf n.code)):=fun h W hW ok' m hm=>by
  obtain⟨k1,k2⟩:=code_same m n _ hm (hW.node ok n _ hn)
  refine⟨fun e=>?_,by rw[k2];omega,by rw[k2]⟩
  rw[e] at k1
  exact hnn ((isNil_iff n).1 k1.symm)
 clear hT hS hn hC hc hnn
 generalize refB n.isNil n.code=R at *
 generalize n.code=C at *
 unfold ptr at *
 go_enter Tryz.func228,Tryz.ntmps228
 go_wp2_with fail
 refine HE.out.mono ?_
 rintro e w1 ⟨rfl,hw1⟩
 rw[hw1]
 clear hw1
 go_wp2_with fail
 refine HCC.out.mono ?_
 rintro e w2 ⟨rfl,hk2⟩
 have HK2:=hide hk2
 clear hk2
 by_cases h32:C.size<32
 ·have i1:(C.size:Int)<32:=by omega
  have HR:=hide (HRef.out.1 h32)
  clear h32
  go_wp2
  go_ret
  exact⟨by rw[←HR.out];rfl,HK2.out⟩
 ·have i1:(32:Int)≤(C.size:Int):=by omega
  have HR:=hide (HRef.out.2 h32)
  have HH:=hide (HHk.out h32)
  have HSm:=hide (sumZ_any C w2 (HTb.out w2 HK2.out) (by omega))
  clear h32
  go_wp2_with fail
  refine HSm.out.mono ?_
  rintro e w3 ⟨rfl,hb3⟩
  have HK3:Hid (KeepH ok w w3):=HK2.out.trans (KeepH.of_below hb3)
  clear hb3
  obtain⟨z0,⟨h1,z1⟩,z2,z3⟩:=HSet.out w3 HK3.out
  have HK4:Hid (KeepH ok w (w3.setCell ⟨b,off+1,none⟩ (.string (hashOf C)))):=HK3.out.trans (z3 _ (HH.out w3 HK3.out))
  have z4:(w3.setCell ⟨b,off+1,none⟩ (.string (hashOf C))).cell? ⟨b,off+1,none⟩=some (.string (hashOf C)):=World.cell?_setCell_same _ _ _ z1
  have HT4:=hide (fun W=>textCode_any (hashOf C) W (by rw[hashOf_size];omega))
  rw[HR.out] at HT4
  clear z3
  generalize hashOf C=G at *
  go_wp2_with fail
  refine (HT4.out _).mono ?_
  rintro e w5 ⟨rfl,hb5⟩
  go_wp2
  go_ret
  exact⟨rfl,HK4.out.trans (KeepH.of_below hb5)⟩
end Go.Proofs.YthdjmldddjljfaaGreatDoor
namespace Go.Proofs.YthdjmldddjljfaaGreatDoor
theorem j_leN:∀(k n:Nat),V.leN k n=leN k n
 | 0,_=>rfl
 | k+1,n=>by simp only[V.leN,leN,j_leN k]
theorem j_hdr (m n:Nat):V.hdr m n=hdr m n:=by
 unfold V.hdr hdr V.lenS lenS
 rw[j_leN];rfl
theorem j_headS (m:Nat)(s:ByteArray):V.headS m s=headS m s:=by
 unfold V.headS headS
 rw[j_hdr]
theorem j_textC (s:ByteArray):V.textC s=textC s:=by
 unfold V.textC textC
 rw[j_headS];rfl
theorem j_listC (ts:List ByteArray):V.listC ts=listC ts:=by
 unfold V.listC listC
 rw[j_headS];rfl
theorem headS_gt (m:Nat)(s:ByteArray):s.size<(headS m s).size:=by
 rw[←j_headS]
 unfold V.headS
 rw[ByteArray.size_append,strOfNums_size]
 have:0 < (V.hdr m s.size).length:=by unfold V.hdr;split<;>simp
 omega
theorem size_le_join {ts:List ByteArray}{t:ByteArray}(h:t∈ts):t.size≤(joinB ts).size:=by
 rw[joinB_size]
 induction ts with
 | nil=>cases h
 | cons u r ih =>
   rw[List.map_cons,List.sum_cons]
   rcases List.mem_cons.1 h with rfl|h
   ·omega
   ·have:=ih h;omega
theorem size_lt_list {ts:List ByteArray}{t:ByteArray}(h:t∈ts):t.size<(listC ts).size:=Nat.lt_of_le_of_lt (size_le_join h) (headS_gt _ _)
theorem textC_hd {b:ByteArray}(h:(textC b).size≤6000):V.Hd (textC b):=by rw[←j_textC] at h ⊢;exact V.Hd.text h
theorem textC_can {b:ByteArray}(h:(textC b).size≤6000)(r:Nat):V.Can r (textC b):=by rw[←j_textC] at h ⊢;exact V.can_txt (V.txt_of h) r
theorem listC_hd {ts:List ByteArray}(h:(listC ts).size≤6000):V.Hd (listC ts):=by rw[←j_listC] at h ⊢;exact V.Hd.list h
theorem listC_can {ts:List ByteArray}{r:Nat}(h:(listC ts).size≤6000)(h1:∀t∈ts,V.Hd t)(h2:∀t∈ts,V.Can r t):V.Can (r+1) (listC ts):=by rw[←j_listC] at h ⊢;exact V.can_items (V.items_of h1 h) h2
theorem textC_gt0 (b:ByteArray):0 < (textC b).size:=by rw[←j_textC];exact V.textC_pos b
theorem join_ge (m:Nat):∀(ts:List ByteArray),(∀t∈ts,m≤t.size)→m*ts.length≤(joinB ts).size:=fun ts h=>by
 rw[joinB_size]
 induction ts with
 | nil=>simp
 | cons u r ih =>
   have h1:=h u (List.mem_cons_self ..)
   have h2:=ih (fun t ht=>h t (List.mem_cons_of_mem _ ht))
   rw[List.map_cons,List.sum_cons,List.length_cons,Nat.mul_succ]
   omega
theorem hash_textC (c:ByteArray):33=(textC (hashOf c)).size:=by
 unfold textC
 have h:=hashOf_size c
 have:ownC (hashOf c)=false:=by simp[ownC,h]
 rw[this,if_neg (by simp)]
 unfold headS
 rw[ByteArray.size_append,strOfNums_size,h]
 rfl
theorem code_pos {n:Nd}(h:n≠.nil):0 < n.code.size:=by
 cases n with
 | nil=>exact absurd rfl h
 | leaf p v=>exact Nat.lt_of_le_of_lt (Nat.zero_le _) (headS_gt _ _)
 | ext p n=>exact Nat.lt_of_le_of_lt (Nat.zero_le _) (headS_gt _ _)
 | br c v=>exact Nat.lt_of_le_of_lt (Nat.zero_le _) (headS_gt _ _)
theorem refB_pos (n:Nd):0 < (refB n.isNil n.code).size:=by
 unfold refB
 cases hn:n.isNil with
 | true=>rw[if_pos rfl];exact textC_gt0 _
 | false =>
   rw[if_neg (by simp)]
   split
   ·exact code_pos (fun e=>by rw[(isNil_iff _).2 e] at hn;cases hn)
   ·exact textC_gt0 _
theorem br_code_gt (c:Nat→Nd)(v:ByteArray):17 < (Nd.br c v).code.size:=by
 have h:=join_ge 1 ((List.range 16).map (fun i=>refB (c i).isNil (c i).code)++[textC v]) (fun t ht=>by
  rcases List.mem_append.1 ht with ht|ht
  ·obtain⟨i,_,rfl⟩:=List.mem_map.1 ht
   exact refB_pos _
  ·rw[List.mem_singleton] at ht;rw[ht];exact textC_gt0 _)
 have h2:=headS_gt 192 (joinB ((List.range 16).map (fun i=>refB (c i).isNil (c i).code)++[textC v]))
 simp only[List.length_append,List.length_map,List.length_range,List.length_cons,List.length_nil] at h
 show 17 < (listC _).size
 unfold listC
 omega
theorem leaf_can (p:List Nat)(v:ByteArray)(h:(Nd.leaf p v).code.size≤6000)(r:Nat):V.Can (r+1) (Nd.leaf p v).code:=by
 have hs:∀t∈[pcode true p,textC v],t.size≤6000:=fun t ht=>by have:=size_lt_list ht;change (listC _).size≤6000 at h;omega
 refine listC_can h (fun t ht=>?_) (fun t ht=>?_)
 ·have:=hs t ht
  rcases List.mem_cons.1 ht with rfl|ht
  ·exact textC_hd this
  ·rw[List.mem_singleton] at ht;subst ht;exact textC_hd this
 ·have:=hs t ht
  rcases List.mem_cons.1 ht with rfl|ht
  ·exact textC_can this r
  ·rw[List.mem_singleton] at ht;subst ht;exact textC_can this r
theorem code_hd {n:Nd}(hn:n≠.nil)(h:n.code.size≤6000):V.Hd n.code:=by
 cases n with
 | nil=>exact absurd rfl hn
 | leaf p v=>exact listC_hd h
 | ext p n=>exact listC_hd h
 | br c v=>exact listC_hd h
theorem refB_hd (n:Nd)(h:(refB n.isNil n.code).size≤6000):V.Hd (refB n.isNil n.code):=by
 unfold refB at h ⊢
 cases hn:n.isNil with
 | true=>rw[hn,if_pos rfl] at h;rw[if_pos rfl];exact textC_hd h
 | false =>
   have hne:n≠.nil:=fun e=>by rw[(isNil_iff _).2 e] at hn;cases hn
   rw[hn,if_neg (by simp)] at h
   rw[if_neg (by simp)]
   by_cases hc:n.code.size<32
   ·rw[if_pos hc];exact code_hd hne (by omega)
   ·rw[if_neg hc] at h ⊢;exact textC_hd h
theorem ext_code_gt {p:List Nat}{n:Nd}(hw:(Nd.ext p n).WF):18 < (Nd.ext p n).code.size:=by
 have hx:refB n.isNil n.code∈[pcode false p,refB n.isNil n.code]:=by simp
 have h:=size_lt_list hx
 change _<(Nd.ext p n).code.size at h
 refine Nat.lt_of_le_of_lt ?_ h
 obtain⟨c,v,rfl⟩:∃c v,n=.br c v:=by
  cases n with
  | br c v=>exact⟨c,v,rfl⟩
  | nil=>exact absurd hw (by simp[Nd.WF,Nd.isBr])
  | leaf _ _=>exact absurd hw (by simp[Nd.WF,Nd.isBr])
  | ext _ _=>exact absurd hw (by simp[Nd.WF,Nd.isBr])
 unfold refB
 rw[if_neg (by simp[Nd.isNil])]
 have:=br_code_gt c v
 split
 ·omega
 ·rw[←hash_textC];omega
theorem br_can {c:Nat→Nd}{v:ByteArray}(hw:(Nd.br c v).WF)(h:(Nd.br c v).code.size<32)(r:Nat):V.Can (r+2) (Nd.br c v).code:=by
 have hts:(Nd.br c v).code=listC ((List.range 16).map (fun i=>refB (c i).isNil (c i).code)++[textC v]):=rfl
 rw[hts] at h ⊢
 have hs:∀t∈((List.range 16).map (fun i=>refB (c i).isNil (c i).code)++[textC v]),t.size<32:=fun t ht=>by have:=size_lt_list ht;omega
 refine listC_can (by omega) (fun t ht=>?_) (fun t ht=>?_)
 ·have:=hs t ht
  rcases List.mem_append.1 ht with ht|ht
  ·obtain⟨i,_,rfl⟩:=List.mem_map.1 ht
   exact refB_hd _ (by omega)
  ·rw[List.mem_singleton] at ht;subst ht;exact textC_hd (by omega)
 ·have:=hs t ht
  rcases List.mem_append.1 ht with ht|ht
  ·obtain⟨i,hi,rfl⟩:=List.mem_map.1 ht
   have hi16:=List.mem_range.1 hi
   have hbig:(refB (c i).isNil (c i).code).size≤15:=by
    have hj:(joinB ((List.range 16).map (fun i=>refB (c i).isNil (c i).code)++[textC v])).size<31:=by
     have:=headS_gt 192 (joinB ((List.range 16).map (fun i=>refB (c i).isNil (c i).code)++[textC v]))
     unfold listC at h
     omega
    have hkey:∀(l:List Nat),i∈l→(refB (c i).isNil (c i).code).size+l.length≤1+((l.map (fun i=>refB (c i).isNil (c i).code)).map ByteArray.size).sum:=by
     intro l
     induction l with
     | nil=>intro h;cases h
     | cons j l ih =>
       intro hj
       have hall:l.length≤((l.map (fun i=>refB (c i).isNil (c i).code)).map ByteArray.size).sum:=by
        have:=join_ge 1 (l.map (fun i=>refB (c i).isNil (c i).code)) (fun t ht=>by obtain⟨i,_,rfl⟩:=List.mem_map.1 ht;exact refB_pos _)
        rw[joinB_size] at this
        simpa using this
       have hp:=refB_pos (c j)
       simp only[List.map_cons,List.sum_cons,List.length_cons]
       rcases List.mem_cons.1 hj with rfl|hj
       ·omega
       ·have:=ih hj;omega
    have hk:=hkey (List.range 16) hi
    rw[joinB_size,List.map_append,List.sum_append] at hj
    simp only[List.length_range,List.map_cons,List.map_nil,List.sum_cons,List.sum_nil] at hk hj
    have:=textC_gt0 v
    omega
   unfold refB at hbig ⊢
   cases hn:(c i).isNil with
   | true=>rw[if_pos rfl];exact textC_can (by rw[hn,if_pos rfl] at hbig;omega) _
   | false =>
     rw[hn,if_neg (by simp)] at hbig
     rw[if_neg (by simp)]
     by_cases hc:(c i).code.size<32
     ·rw[if_pos hc] at hbig ⊢
      have hwi:=hw.1 i
      cases hci:c i with
      | nil=>rw[hci] at hn;simp[Nd.isNil] at hn
      | leaf p u=>exact leaf_can p u (by rw[hci] at hc;omega) r
      | ext p m=>rw[hci] at hbig hwi;have:=ext_code_gt hwi;omega
      | br d u=>rw[hci] at hbig;have:=br_code_gt d u;omega
     ·rw[if_neg hc,←hash_textC] at hbig;omega
  ·rw[List.mem_singleton] at ht;subst ht;exact textC_can (by omega) _
theorem code_can {n:Nd}(hw:n.WF)(hn:n≠.nil)(h:n.code.size<32):V.Can 8 n.code:=by
 cases n with
 | nil=>exact absurd rfl hn
 | leaf p v=>exact leaf_can p v (by omega) 7
 | br c v=>exact br_can hw h 6
 | ext p n =>
   have hs:∀t∈[pcode false p,refB n.isNil n.code],t.size<32:=fun t ht=>by
    have:=size_lt_list ht
    change (listC _).size<32 at h
    omega
   change V.Can 8 (listC _)
   refine listC_can (r:=7) (by change (listC _).size<32 at h;omega) (fun t ht=>?_) (fun t ht=>?_)
   ·have:=hs t ht
    rcases List.mem_cons.1 ht with rfl|ht
    ·exact textC_hd (Nat.le_trans (Nat.le_of_lt this) (by decide))
    ·rw[List.mem_singleton] at ht;subst ht;exact refB_hd _ (by omega)
   ·have:=hs t ht
    rcases List.mem_cons.1 ht with rfl|ht
    ·exact textC_can (Nat.le_trans (Nat.le_of_lt this) (by decide)) _
    ·rw[List.mem_singleton] at ht;subst ht
     unfold refB at this ⊢
     obtain⟨c,v,rfl⟩:∃c v,n=.br c v:=by
      cases n with
      | br c v=>exact⟨c,v,rfl⟩
      | nil=>exact absurd hw (by simp[Nd.WF,Nd.isBr])
      | leaf _ _=>exact absurd hw (by simp[Nd.WF,Nd.isBr])
      | ext _ _=>exact absurd hw (by simp[Nd.WF,Nd.isBr])
     rw[if_neg (by simp[Nd.isNil])] at this ⊢
     split
     ·rename_i h32
      exact br_can hw.2.2.2 h32 5
     ·rename_i h32
      rw[if_neg h32,←hash_textC] at this;omega
end Go.Proofs.YthdjmldddjljfaaGreatDoor
namespace Go.Proofs.YthdjmldddjljfaaGreatDoor
open Go.RowKit
attribute [local go_sem ↓] Go.wp_at_zero Go.wp_at_succ
def codePost (ok:Nat→Prop)(n:Nd)(w:World)(e:Ending)(w' : World):Prop:=e=.returned (.string n.code)∧KeepH ok w w'
def NCodeOk (n:Nd):Prop:=∀(ok:Nat→Prop) (b:Nat) (w:World),TbZ w→(∀k,ok k→3≤k∧k<w.heap.size)→CB n→match n with
 | .nil=>True
 | .leaf q v=>NdAt HkC ok w (.leaf q v) (.iface 153 (ptr b))→Calls Tryz.prog 205 #[ptr b] w fun e w' => codePost ok (.leaf q v) w e w'
 | .ext q m=>NdAt HkC ok w (.ext q m) (.iface 250 (ptr b))→Calls Tryz.prog 229 #[ptr b] w fun e w' => codePost ok (.ext q m) w e w'
 | .br c x=>NdAt HkC ok w (.br c x) (.iface 252 (ptr b))→Calls Tryz.prog 237 #[ptr b] w fun e w' => codePost ok (.br c x) w e w'
theorem refCode_any (n:Nd)(ih:NCodeOk n)(ok:Nat→Prop)(b off:Nat)(u:Value)(h:ByteArray)(w:World)(hT:TbZ w)(hok:∀k,ok k→3≤k∧k<w.heap.size)(hS:Slot ok w b off u h)(hn:NdAt HkC ok w n u)(hC:CB n)(hh:h=e0∨HkC n h) :
  Calls Tryz.prog 228 #[.pointer (some ⟨b,off,none⟩)] w fun e w' => e=.returned (.string (refB n.isNil n.code))∧KeepH ok w w' := by
 by_cases hnil:n=.nil
 ·subst hnil
  obtain rfl:u=.nilIface:=hn
  obtain rfl:h=e0:=by
   rcases hh with h|h
   ·exact h
   ·exact absurd rfl h.1
  refine (refCode_nil b off w hS.node hS.hash).mono ?_
  rintro e w' ⟨rfl,hb⟩
  exact⟨rfl,KeepH.of_below hb⟩
 ·rcases hh with rfl|hh
  ·have ih' := fun b=>ih ok b w hT hok hC
   cases n with
   | nil=>exact absurd rfl hnil
   | leaf q v =>
     have hn' := hn
     obtain⟨ub,_,_,rfl,_⟩:=hn'
     exact refCode_leaf ok (.leaf q v) b off ub w hT (fun k hk=>(hok k hk).1) hS hn hC (ih' ub hn)
   | ext q m =>
     have hn' := hn
     obtain⟨ub,_,_,_,_,rfl,_⟩:=hn'
     exact refCode_ext ok (.ext q m) b off ub w hT (fun k hk=>(hok k hk).1) hS hn hC (ih' ub hn)
   | br c x =>
     have hn' := hn
     obtain⟨ub,_,_,rfl,_⟩:=hn'
     exact refCode_br ok (.br c x) b off ub w hT (fun k hk=>(hok k hk).1) hS hn hC (ih' ub hn)
  ·obtain⟨t,ub,rfl⟩:=hn.some hnil
   refine (refCode_hash n b off t ub h w hS.node hS.hash hh).mono ?_
   rintro e w' ⟨rfl,hb⟩
   exact⟨rfl,KeepH.of_below hb⟩
theorem extCode_any (q:List Nat)(m:Nd)(ih:NCodeOk m)(ok:Nat→Prop)(b:Nat)(w:World)(hT:TbZ w)(hok:∀k,ok k→3≤k∧k<w.heap.size)(hC:CB (.ext q m))(hn:NdAt HkC ok w (.ext q m) (.iface 250 (ptr b))) :
  Calls Tryz.prog 229 #[ptr b] w fun e w' => codePost ok (.ext q m) w e w' := by
 have hn0:=hn
 obtain⟨b', ao,cap,u,h,hb', o1,_,hb,hq,h0,hc,hm,hh⟩:=hn
 obtain rfl:b=b' := by simpa[ptr] using hb'
 have hql:q.length≤128:=hC.len.1
 have hAt:∀W,KeepH ok w W→∃h', W.heap[b]? = some (.cells #[.slice ao q.length cap,u,.string h'] 282 (0,0))∧Nums W ao q∧NdAt HkC ok W m u∧(h' = e0∨HkC m h'):=fun W hW=>by
  obtain⟨h', e1⟩:=hW.ext b _ u h hb
  obtain⟨b2,ao2,cap2,u2,h2,k1,_,_,k2,k3,_,_,k4,k5⟩:=hW.node ok _ _ hn0
  obtain rfl:b=b2:=by simpa[ptr] using k1
  rw[e1] at k2
  simp only[Option.some.injEq,Obj.cells.injEq] at k2
  obtain⟨⟨rfl,_⟩,rfl,rfl⟩:(ao=ao2∧cap=cap2)∧u=u2∧h' = h2:=by simpa using k2.1
  exact⟨h', e1,k3,k4,k5⟩
 have HCl:Hid (∀W,KeepH ok w W→W.cell? ⟨b,0,none⟩=some (.slice ao q.length cap)):=fun W hW=>by
  obtain⟨h', e1,_⟩:=hAt W hW
  exact cell_of_row _ _ 0 _ _ (0,0) e1
 have HPc:Hid (∀W,KeepH ok w W→Calls Tryz.prog 211 #[.slice ao q.length cap,.bool false] W fun e w' => e=.returned (.string (pcode false q))∧KeepH ok w w'):=fun W hW=>by
  obtain⟨h', _,e2,_⟩:=hAt W hW
  refine (pathCode_any ao cap q false W e2 h0 hql hC.wf.2.1).mono ?_
  rintro e w' ⟨rfl,h⟩
  exact⟨rfl,hW.trans (KeepH.of_below h)⟩
 have HRc:Hid (∀W,KeepH ok w W→Calls Tryz.prog 228 #[.pointer (some ⟨b,1,none⟩)] W fun e w' => e=.returned (.string (refB m.isNil m.code))∧KeepH ok w w'):=fun W hW=>by
  obtain⟨h', e1,e2,e3,e4⟩:=hAt W hW
  have hS:Slot ok W b 1 u h' := ⟨cell_of_row _ _ 1 _ _ (0,0) e1,cell_of_row _ _ 2 _ _ (0,0) e1,fun V hV=>by
   obtain⟨h2,k1,_⟩:=hAt V (hW.trans hV)
   exact⟨cell_of_row _ _ 1 _ _ (0,0) k1,⟨h2,cell_of_row _ _ 2 _ _ (0,0) k1⟩,frozen_of_row _ _ 2 _ _ k1,fun g hg=>setHash_ext k1 o1 hg⟩⟩
  refine (refCode_any m ih ok b 1 u h' W (hT.keepH hW (fun k hk=>(hok k hk).1)) (fun k hk=>⟨(hok k hk).1,Nat.lt_of_lt_of_le (hok k hk).2 hW.size⟩) hS e3 hC.ext e4).mono ?_
  rintro e w' ⟨rfl,h⟩
  exact⟨rfl,hW.trans h⟩
 have HLc:Hid (∀W,KeepH ok w W→Calls Tryz.prog 210 #[.slice (some ⟨W.heap.size,0,none⟩) 2 2] (W.alloc (.cells #[.string (pcode false q),.string (refB m.isNil m.code)] 9)) fun e w' => codePost ok (.ext q m) w e w'):=fun W hW=>by
  have h1:=pcode_size (leaf:=false) hql
  have h2:=refB_size m.isNil m.code
  refine (listTwo (pcode false q) (refB m.isNil m.code) W (by omega)).mono ?_
  rintro e w' ⟨rfl,h⟩
  exact⟨rfl,hW.trans (KeepH.of_below h)⟩
 unfold codePost at *
 have c0:=HCl.out w (KeepH.of_below (Below.refl _ _))
 have HKd:Hid (KeepH ok w w.drew):=KeepH.of_below (Below.refl _ _).drew
 clear hb hq h0 hc hC hb' hm hh hn0 hAt hok hT ih hql o1
 generalize (Nd.ext q m).code=C at *
 generalize pcode false q=P1 at *
 generalize refB m.isNil m.code=P2 at *
 unfold ptr
 go_enter Tryz.func229,Tryz.ntmps229
 go_wp2_with fail
 go_region_held3 (fun W=>W.cell? ⟨b,0,none⟩=some (.slice ao q.length cap)) (first|go_keep|(simp[*])) ((first
  | (go_at_call 211;refine (HPc.out _ (by first|exact HKd.out|exact HB3.out)).mono ?_;rintro e w2 ⟨rfl,hb2⟩;(have HB2:=hide hb2);(have d0:=HCl.out w2 hb2);clear hb2)
  | (go_at_call 228;refine (HRc.out _ (by first|exact HKd.out|exact HB2.out)).mono ?_;rintro e w3 ⟨rfl,hb3⟩;(have HB3:=hide hb3);(have i0:=HCl.out w3 hb3);clear hb3)
  | (go_at_call 210;(first|refine (HLc.out w3 HB3.out).mono ?_|refine (HLc.out w2 HB2.out).mono ?_);rintro e w4 ⟨rfl,hb4⟩;(have HB4:=hide hb4);(have j0:=HCl.out w4 hb4);clear hb4)))
 all_goals
  go_wp2
  go_ret
  exact⟨rfl,by first|exact HB4.out|exact HB4.out.trans (KeepH.of_below (Below.refl _ _).drew)⟩
theorem infoStr:(Tryz.prog.info? 9).map (fun i=>(i.zero,i.size,i.bytes))=some (some (.string ⟨#[]⟩),1,16):=by kernel_rfl
theorem make_codes (w:World):(Instr.makeSlice 38 (.int .i64 0) (.int .i64 17)).run Tryz.prog w=.ok (.slice (some ⟨w.heap.size,0,none⟩) 0 17) (w.alloc (.cells (madeCells #[.string ⟨#[]⟩] 17) 9)):=by
 obtain⟨i0,hi,hz0,hz1,hz2⟩:=info_parts infoStr
 have h:=run_make (P:=Tryz.prog) w 38 9 i0 (.string ⟨#[]⟩) Tryz.underlying38 hi hz0 .i64 .i64 0 17 (by omega) (by omega) (by rw[hz2];omega) (by omega)
 simpa[hz1,Value.cells] using h
def brCodes (c:Nat→Nd)(i:Nat):List ByteArray:=(List.range i).map (fun j=>refB (c j).isNil (c j).code)
theorem brCodes_succ (c:Nat→Nd)(i:Nat):brCodes c (i+1)=brCodes c i++[refB (c i).isNil (c i).code]:=by
 unfold brCodes;rw[List.range_succ,List.map_append];rfl
theorem brCodes_len (c:Nat→Nd)(i:Nat):(brCodes c i).length=i:=by simp[brCodes]
theorem str_news (W:World)(s:ByteArray):∀j u,[Value.string s][j]? = some u→(W.alloc (.cells #[.string s] 9)).cell? ((⟨W.heap.size,0,none⟩:Addr).add j)=some u :=
 World.news_of_block (cs:=#[.string s]) (t:=9) (fr:=(0,0)) (heap_alloc_new W _)
theorem brCode_any (c:Nat→Nd)(x:ByteArray)(ih:∀i,NCodeOk (c i))(ok:Nat→Prop)(b:Nat)(w:World)(hT:TbZ w)(hok:∀k,ok k→3≤k∧k<w.heap.size)(hC:CB (.br c x))(hn:NdAt HkC ok w (.br c x) (.iface 252 (ptr b))) :
  Calls Tryz.prog 237 #[ptr b] w fun e w' => codePost ok (.br c x) w e w' := by
 obtain⟨i0,hi,hz0,hz1,hz2⟩:=info_parts infoStr
 have hAt:∀W,KeepH ok w W→∃us hs,W.heap[b]? = some (.cells (brCells us hs x) 285 (0,0))∧ok b∧∀i,i<16→NdAt HkC ok W (c i) (us i)∧(hs i=e0∨HkC (c i) (hs i)):=fun W hW=>by
  obtain⟨b2,us,hs,k1,k2,k3,k4⟩:=hW.node ok _ _ hn
  obtain rfl:b=b2:=by simpa[ptr] using k1
  exact⟨us,hs,k3,k2,fun i hi=>⟨(k4 i hi).1,(k4 i hi).2.imp id (fun h=>h.2)⟩⟩
 have HVal:Hid (∀W,KeepH ok w W→W.cell? ⟨b,32,none⟩=some (.string x)):=fun W hW=>by
  obtain⟨us,hs,k1,_⟩:=hAt W hW
  exact br_val k1
 have HRc:Hid (∀W i,KeepH ok w W→i<16→Calls Tryz.prog 228 #[.pointer (some ⟨b,i*2,none⟩)] W fun e w' => e=.returned (.string (refB (c i).isNil (c i).code))∧KeepH ok W w'):=fun W i hW hi16=>by
  obtain⟨us,hs,k1,k2,k3⟩:=hAt W hW
  have hS:Slot ok W b (i*2) (us i) (hs i):=⟨(br_ref k1 i hi16).1,(br_ref k1 i hi16).2,fun V hV=>by
   obtain⟨hs', e1⟩:=hV.br b us hs x k1
   exact⟨(br_ref e1 i hi16).1,⟨hs' i,(br_ref e1 i hi16).2⟩,frozen_of_row _ _ _ _ _ e1,fun g hg=>(setHash_br hi16 e1 k2 hg).1⟩⟩
  exact refCode_any (c i) (ih i) ok b (i*2) (us i) (hs i) W (hT.keepH hW (fun k hk=>(hok k hk).1)) (fun k hk=>⟨(hok k hk).1,Nat.lt_of_lt_of_le (hok k hk).2 hW.size⟩) hS (k3 i hi16).1 (hC.kid i) (k3 i hi16).2
 have HFar:Hid (∀W W' v n xs,KeepH ok w W→KeepH ok W W' → W.ownsRow w.heap.size 9 1 v n xs→W'.ownsRow w.heap.size 9 1 v n xs):=fun W W' v n xs hW hW' ho=>own_far ho (fun g hg hl=>hW'.far g hl (fun e=>by have:=(hok g e).2;have:=own_ge ho (Nat.le_refl _) g hg;omega))
 have HTc:=hide (fun W=>textCode_any x W (by have:=hC.val;omega))
 have HJ:Hid ((joinB (brCodes c 16++[textC x])).size<16777216):=by have:=join_br hC;show _<_;unfold brCodes;omega
 have HCd:Hid ((Nd.br c x).code=listC (brCodes c 16++[textC x])):=rfl
 have hmk:=make_codes w
 have HO0:Hid ((w.alloc (.cells (madeCells #[.string ⟨#[]⟩] 17) 9)).ownsRow w.heap.size 9 1 (.slice (some ⟨w.heap.size,0,none⟩) 0 17) 0 []):=World.ownsRow_made (base:=w.heap.size) (e:=9) (size:=1) w _ 17 (Nat.le_refl _) (by unfold maxLen;omega) (by simp[madeCells])
 have HK0:Hid (KeepH ok w (w.alloc (.cells (madeCells #[.string ⟨#[]⟩] 17) 9))):=KeepH.of_below (below_alloc _ _)
 have HKr:Hid (∀W,KeepH ok w W→w.heap.size≤W.heap.size):=fun W h=>h.size
 unfold codePost at *
 rw[HCd.out]
 clear hC hn hAt hok hT ih HCd
 generalize textC x=TX at *
 unfold ptr
 go_enter Tryz.func237,Tryz.ntmps237
 go_wp2_with fail
 generalize World.alloc w _=W0 at *
 clear hmk
 go_loopw [3,6] (fun v iv wr=>∃i:Nat,i≤16∧iv=.int .i64 (i:Int)∧Hid (wr.ownsRow w.heap.size 9 1 v i ((brCodes c i).map Value.string))∧Hid (KeepH ok w wr)) (fun _ iv _=>16 - (intOf iv).toNat)
 case atStart=>exact⟨0,by omega,rfl,HO0,HK0⟩
 case round =>
  obtain⟨i,hi', rfl,HO,HK⟩:=hrel
  by_cases hlt:i<16
  ·have j0:(0:Int)≤(i:Int):=by omega
   have j1:(i:Int)<16:=by omega
   have HR:=hide (HRc.out wr i HK.out hlt)
   have HSc:=hide (brCodes_succ c i)
   generalize refB (c i).isNil (c i).code=R at *
   go_wp2_with fail
   refine HR.out.mono ?_
   rintro e w2 ⟨rfl,hk2⟩
   have HK2:Hid (KeepH ok w w2):=HK.out.trans hk2
   have HO2:=hide ((HFar.out wr w2 _ _ _ HK.out hk2 HO.out).alloc (.cells #[.string R] 9))
   clear hk2
   go_wp2_with (at_builtin;go_must (refine wpList_append_lies _ rfl (.tmp 9) (.tmp 16) 38 rfl w.heap.size 9 i0 _ 1 16 Tryz.underlying38 hi hz0 hz1 hz2 rfl (by omega) u3 i _ rfl HO2.out ⟨w2.heap.size,0,none⟩ 1 1 [.string R] (by rfl) (by rfl) (str_news w2 R) (by simp[Value.oneCell']) (by omega) (by unfold maxLen;omega) (by omega) (by have:=HKr.out w2 HK2.out;simp;omega) _ rfl ?_);intro g4 c4 w4 ho4 hg4 hat4 hlt4;go_must (have HX4:=hide (And.intro ho4 hg4));clear ho4 hg4 hat4 hlt4)
   have HB4:Hid (Below w.heap.size w2 w4):=((below_alloc w2 _).mono (HKr.out w2 HK2.out)).grown HX4.out.2 (by have:=HKr.out w2 HK2.out;simp;omega) (own_ge HO2.out (Nat.le_refl _))
   go_roundw
   case rel =>
    refine⟨i+1,by omega,by go_num,?_,?_⟩
    ·have h:=HX4.out.1
     show World.ownsRow _ _ _ _ _ _ _
     rw[HSc.out,List.map_append]
     exact h
    ·exact HK2.out.after HB4.out
   case measure=>simp[intOf];omega
  ·obtain rfl:i=16:=by omega
   have cv:=HVal.out wr HK.out
   have HTx:=hide (HTc.out wr)
   go_wp2_with fail
   refine HTx.out.mono ?_
   rintro e w2 ⟨rfl,hb2⟩
   have HK2:Hid (KeepH ok w w2):=HK.out.trans (KeepH.of_below hb2)
   have HO2:=hide ((HFar.out wr w2 _ _ _ HK.out (KeepH.of_below hb2) HO.out).alloc (.cells #[.string TX] 9))
   clear hb2
   go_wp2_with (at_builtin;go_must (refine wpList_append_lies _ rfl (.tmp 19) (.tmp 25) 38 rfl w.heap.size 9 i0 _ 1 16 Tryz.underlying38 hi hz0 hz1 hz2 rfl (by omega) u3 16 _ rfl HO2.out ⟨w2.heap.size,0,none⟩ 1 1 [.string TX] (by rfl) (by rfl) (str_news w2 TX) (by simp[Value.oneCell']) (by omega) (by unfold maxLen;omega) (by omega) (by have:=HKr.out w2 HK2.out;simp;omega) _ rfl ?_);intro g4 c4 w4 ho4 hg4 hat4 hlt4;go_must (have HX4:=hide (And.intro ho4 hg4));clear ho4 hg4 hat4 hlt4)
   have HB4:Hid (Below w.heap.size w2 w4):=((below_alloc w2 _).mono (HKr.out w2 HK2.out)).grown HX4.out.2 (by have:=HKr.out w2 HK2.out;simp;omega) (own_ge HO2.out (Nat.le_refl _))
   have HK4:Hid (KeepH ok w w4):=HK2.out.after HB4.out
   have HLc:Hid (Calls Tryz.prog 210 #[.slice (some ⟨g4,0,none⟩) 17 c4] w4 fun e w' => e=.returned (.string (listC (brCodes c 16++[TX])))∧Below w4.heap.size w4 w'):=by
    have hlen:(brCodes c 16++[TX]).length=17:=by rw[List.length_append,brCodes_len];rfl
    have hcap:17≤c4:=by
     rcases HX4.out.1.2 with⟨h,_⟩|⟨g', c', cur,h,_,_,h4,_⟩
     ·cases h
     ·injection h with _ _ e;subst e;exact h4
    have h:=listCode_any g4 0 c4 (brCodes c 16++[TX]) w4 (fun j y hy=>by
     have:=HX4.out.1.cells (g:=g4) rfl j (.string y) (by
      have e:(brCodes c 16).map Value.string++[.string TX]=(brCodes c 16++[TX]).map Value.string:=by simp
      rw[e,List.getElem?_map,hy];rfl)
     rwa [addr_add] at this) (by omega) (by omega) HJ.out
    rwa [hlen] at h
   clear HX4 HO2
   go_wp2_with fail
   refine HLc.out.mono ?_
   rintro e w5 ⟨rfl,hb5⟩
   go_wp2
   go_ret
   exact⟨rfl,HK4.out.trans (KeepH.of_below hb5)⟩
theorem nCode_all:∀(n:Nd),NCodeOk n
 | .nil=>fun _ _ _ _ _ _=>trivial
 | .leaf q v=>fun ok b w _ _ hC hn=>by
   refine (leafCode_any HkC ok b q v w hn hC).mono ?_
   rintro e w' ⟨rfl,h⟩
   exact⟨rfl,KeepH.of_below h⟩
 | .ext q m=>fun ok b w hT hok hC hn=>extCode_any q m (nCode_all m) ok b w hT hok hC hn
 | .br c x=>fun ok b w hT hok hC hn=>brCode_any c x (fun i=>nCode_all (c i)) ok b w hT hok hC hn
def rootOf (n:Nd):ByteArray:=if n.isNil=true then hashOf (textC e0) else hashOf n.code
theorem rootOfNothing_any (w:World)(hT:TbZ w):Calls Tryz.prog 48 #[] w fun e w' => e=.returned (.string (hashOf (textC e0)))∧Below w.heap.size w w' := by
 have HC:=hide (textCode_any e0 w (by show 0 < 16777216;omega))
 have HS:Hid (∀W,Below w.heap.size w W→Calls Tryz.prog 47 #[.string (textC e0)] W fun e w' => e=.returned (.string (hashOf (textC e0)))∧Below W.heap.size W w'):=fun W hW=>sumZ_any _ W (hT.keep hW) (by have:=textC_size e0;have h:e0.size=0:=rfl;omega)
 clear hT
 generalize hashOf (textC e0)=H at *
 generalize textC e0=C at *
 go_enter Tryz.func48,Tryz.ntmps48
 go_wp2_with fail
 refine HC.out.mono ?_
 rintro e w1 ⟨rfl,hb⟩
 have HB:=hide hb
 clear hb
 go_wp2_with fail
 refine (HS.out w1 HB.out).mono ?_
 rintro e w2 ⟨rfl,hb2⟩
 go_wp2
 go_ret
 exact⟨rfl,HB.out.trans (hb2.mono HB.out.size)⟩
theorem tRoot_any (ok:Nat→Prop)(T:Nat)(st:Value)(n:Nd)(w:World)(hA:TreeAt HkC ok w T st n)(hO:TOk n)(hT:TbZ w)(hok:∀k,ok k→3≤k) :
  Calls Tryz.prog 19 #[ptr T] w fun e w' => e=.returned (.string (rootOf n))∧KeepH ok w w' := by
 have hTl:=hA.lt
 obtain⟨u,hb,hn⟩:=hA.held
 have hok2:∀k,ok k→3≤k∧k<w.heap.size:=fun k hk=>⟨hok k hk,(hA.blk k hk).1⟩
 have c1:w.cell? ⟨T,1,none⟩=some u:=cell_of_row _ _ 1 _ _ (0,0) hb
 have c2:w.cell? ⟨T,2,none⟩=some (.string e0):=cell_of_row _ _ 2 _ _ (0,0) hb
 have HSm:Hid (∀W,KeepH ok w W→Calls Tryz.prog 47 #[.string n.code] W fun e w' => e=.returned (.string (hashOf n.code))∧KeepH ok w w'):=fun W hW=>by
  refine (sumZ_any n.code W (hT.keepH hW hok) (by have:=code_size hO.cb;omega)).mono ?_
  rintro e w' ⟨rfl,h⟩
  exact⟨rfl,hW.trans (KeepH.of_below h)⟩
 have ih:=fun b=>nCode_all n ok b w hT hok2 hO.cb
 cases n with
 | nil =>
   obtain rfl:u=.nilIface:=hn
   have HR:=hide (rootOfNothing_any w hT)
   have HE:Hid (rootOf .nil=hashOf (textC e0)):=rfl
   rw[HE.out]
   clear hA hO hT hok hb hok2 ih HSm HE
   generalize hashOf (textC e0)=H at *
   unfold ptr
   go_enter Tryz.func19,Tryz.ntmps19
   go_wp2_with fail
   refine HR.out.mono ?_
   rintro e w2 ⟨rfl,hb2⟩
   go_wp2
   go_ret
   exact⟨rfl,KeepH.of_below hb2⟩
 | leaf q v =>
   have hn' := hn
   obtain⟨ub,_,_,rfl,_⟩:=hn'
   have HC:=hide (ih ub hn)
   have HE:Hid (rootOf (.leaf q v)=hashOf (Nd.leaf q v).code):=rfl
   rw[HE.out]
   have hme:=meth_co_leaf
   unfold codePost at HC
   clear hA hO hT hok hb hok2 ih HE hn
   generalize hashOf (Nd.leaf q v).code=H at *
   generalize (Nd.leaf q v).code=C at *
   unfold ptr at *
   go_enter Tryz.func19,Tryz.ntmps19
   go_wp2_with fail
   refine HC.out.mono ?_
   rintro e w2 ⟨rfl,hk2⟩
   have HS2:=hide (HSm.out w2 hk2)
   clear hk2
   go_wp2_with fail
   refine HS2.out.mono ?_
   rintro e w3 ⟨rfl,hk3⟩
   go_wp2
   go_ret
   exact⟨rfl,hk3⟩
 | ext q m =>
   have hn' := hn
   obtain⟨ub,_,_,_,_,rfl,_⟩:=hn'
   have HC:=hide (ih ub hn)
   have HE:Hid (rootOf (.ext q m)=hashOf (Nd.ext q m).code):=rfl
   rw[HE.out]
   have hme:=meth_co_ext
   unfold codePost at HC
   clear hA hO hT hok hb hok2 ih HE hn
   generalize hashOf (Nd.ext q m).code=H at *
   generalize (Nd.ext q m).code=C at *
   unfold ptr at *
   go_enter Tryz.func19,Tryz.ntmps19
   go_wp2_with fail
   refine HC.out.mono ?_
   rintro e w2 ⟨rfl,hk2⟩
   have HS2:=hide (HSm.out w2 hk2)
   clear hk2
   go_wp2_with fail
   refine HS2.out.mono ?_
   rintro e w3 ⟨rfl,hk3⟩
   go_wp2
   go_ret
   exact⟨rfl,hk3⟩
 | br c x =>
   have hn' := hn
   obtain⟨ub,_,_,rfl,_⟩:=hn'
   have HC:=hide (ih ub hn)
   have HE:Hid (rootOf (.br c x)=hashOf (Nd.br c x).code):=rfl
   rw[HE.out]
   have hme:=meth_co_br
   unfold codePost at HC
   clear hA hO hT hok hb hok2 ih HE hn
   generalize hashOf (Nd.br c x).code=H at *
   generalize (Nd.br c x).code=C at *
   unfold ptr at *
   go_enter Tryz.func19,Tryz.ntmps19
   go_wp2_with fail
   refine HC.out.mono ?_
   rintro e w2 ⟨rfl,hk2⟩
   have HS2:=hide (HSm.out w2 hk2)
   clear hk2
   go_wp2_with fail
   refine HS2.out.mono ?_
   rintro e w3 ⟨rfl,hk3⟩
   go_wp2
   go_ret
   exact⟨rfl,hk3⟩
theorem cRoot_any (ok:Nat→Prop)(T:Nat)(st:Value)(n:Nd)(w:World)(hA:TreeAt HkC ok w T st n)(hO:TOk n)(hT:TbZ w)(hok:∀k,ok k→3≤k) :
  Calls Tryz.prog 11 #[ptr T] w fun e w' => e=.returned (.string (rootOf n))∧KeepH ok w w' := by
 have HR:=hide (tRoot_any ok T st n w hA hO hT hok)
 clear hA hO hT hok
 generalize rootOf n=H at *
 unfold ptr at *
 go_enter Tryz.func11,Tryz.ntmps11
 go_wp2_with fail
 refine HR.out.mono ?_
 rintro e w2 ⟨rfl,hb2⟩
 go_wp2
 go_ret
 exact⟨rfl,hb2⟩
end Go.Proofs.YthdjmldddjljfaaGreatDoor
