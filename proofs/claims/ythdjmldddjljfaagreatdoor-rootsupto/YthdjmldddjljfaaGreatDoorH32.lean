/-
  OUR OWN.
-/
import Derived.Test.YthdjmldddjljfaaGreatDoorH31
import Derived.Deep.MidRow
set_option maxHeartbeats 8000000
set_option maxRecDepth 20000
namespace Go.Proofs.YthdjmldddjljfaaGreatDoor
open Go.RowKit Go.Shelf
theorem wpListIn_load_mid {F:Fence}{n:Nat}{P:Program}{ops:Array Oper}{rest:List Oper}{op:Oper}{a:Act}{w:World}{Q:Exit→Act→World→Prop}
  (hgd:op.guard=none) (ty:TypeId) (x:Operand) (ho:op.op=.load ty x) (b o:Nat) (hx:a.eval x=.pointer (some ⟨b,o,none⟩))
  (cs:List Value) (d:TypeDesc) (hc:w.rangeAt b o cs) (hu:P.underlying ty=some d) (hd:d.isRow=true)
  (hi:(P.info? ty).map (·.size)=some cs.length) (h:wpListIn F n P ops Q rest (a.put op.dst (.agg cs.toArray)) w) :
  wpListIn F n P ops Q (op :: rest) a w:=by
 refine wpListIn_plain hgd fun K hK' => ?_
 unfold Oper.wpIn
 refine⟨?_,?_⟩
 ·simp[Oper.about,ho]
 ·rw[Oper.semAt_plain F _ _ (by rw[ho];intro c hc';cases hc')]
  simp only[execOp,ho,hx,Sem.run_bind,run_loadAt_mid w b o ty cs d hc hu hd hi,Result.andThen_ok,Sem.run_pure]
  exact hK' _ _ h
theorem run_index_row {P:Program}(w:World)(t e:TypeId)(len:Nat)(d:TypeDesc)(inf:TypeInfo)(cs:Array Value)(k:IntKind)(i:Nat)
  (ht:P.underlying t=some (.array len e)) (he:P.underlying e=some d) (hd:d.isRow=true) (hi:P.info? e=some inf) (h:i<len) :
  (Instr.index t (.agg cs) (.int k (i:Int))).run P w=.ok (.agg (cs.extract (i*inf.size) (i*inf.size+inf.size))) w:=by
 have h' : (0:Int)≤i∧(i:Int)<len:=⟨by omega,by omega⟩
 have hs:(sizeOf e).run P w=.ok inf.size w:=by simp[sizeOf,run_typeInfo w hi]
 have ha:(isAgg e).run P w=.ok true w:=by
  cases d<;>simp[TypeDesc.isRow] at hd<;>simp[isAgg,run_underlying he]
 simp[Instr.index,run_underlying ht,asIntOf,h,part,hs,ha,Result.andThen]
theorem isEmpty_in_yes (F:Fence)(n:Nat)(hf:F.fn 80)(hro:F.round=none)(b off:Nat)(w:World)(h0:w.cell? ⟨b,off,none⟩=some .nilIface)(h1:w.cell? ⟨b,off+1,none⟩=some (.string e0)) :
  CallsIn F n Tryz.prog 80 #[.pointer (some ⟨b,off,none⟩)] w fun e w' => e=.returned (.bool true)∧w' = w:=by
 refine callsIn_of_wp Tryz.func80 rfl hf ?_ hro
 simp only[Tryz.ntmps80,List.size_toArray,List.length_cons,List.length_nil,Nat.reduceAdd,Nat.reduceSub,Array.replicate_succ,Array.replicate_zero,List.push_toArray,List.append_toArray,List.nil_append,List.cons_append]
 gi_wp2
 go_ret
 exact⟨rfl,rfl⟩
theorem isEmpty_in_no (F:Fence)(n:Nat)(hf:F.fn 80)(hro:F.round=none)(b off:Nat)(t:TypeId)(x:Nat)(w:World)(h0:w.cell? ⟨b,off,none⟩=some (.iface t (ptr x))) :
  CallsIn F n Tryz.prog 80 #[.pointer (some ⟨b,off,none⟩)] w fun e w' => e=.returned (.bool false)∧w' = w:=by
 refine callsIn_of_wp Tryz.func80 rfl hf ?_ hro
 simp only[Tryz.ntmps80,List.size_toArray,List.length_cons,List.length_nil,Nat.reduceAdd,Nat.reduceSub,Array.replicate_succ,Array.replicate_zero,List.push_toArray,List.append_toArray,List.nil_append,List.cons_append]
 gi_wp2
 go_ret
 exact⟨rfl,rfl⟩
theorem isEmpty_in_hash (F:Fence)(n:Nat)(hf:F.fn 80)(hro:F.round=none)(b off:Nat)(h:ByteArray)(w:World)(hh:h.toList.isEmpty=false)(h0:w.cell? ⟨b,off,none⟩=some .nilIface)(h1:w.cell? ⟨b,off+1,none⟩=some (.string h)) :
  CallsIn F n Tryz.prog 80 #[.pointer (some ⟨b,off,none⟩)] w fun e w' => e=.returned (.bool false)∧w' = w:=by
 refine callsIn_of_wp Tryz.func80 rfl hf ?_ hro
 simp only[Tryz.ntmps80,List.size_toArray,List.length_cons,List.length_nil,Nat.reduceAdd,Nat.reduceSub,Array.replicate_succ,Array.replicate_zero,List.push_toArray,List.append_toArray,List.nil_append,List.cons_append]
 gi_wp2
 go_ret
 exact⟨rfl,rfl⟩
theorem e0_of_toList {s:ByteArray}(h:s.toList=[]):s=e0:=by
 rw[ByteArray.toList_eq] at h
 cases s with
 | mk d=>exact congrArg ByteArray.mk (Array.toList_eq_nil_iff.1 h)
theorem empty_of_ne {s:ByteArray}(h:s≠e0):s.toList.isEmpty=false:=by
 cases hs:s.toList with
 | nil=>exact absurd (e0_of_toList hs) h
 | cons _ _=>rfl
end Go.Proofs.YthdjmldddjljfaaGreatDoor
namespace Go.Proofs.YthdjmldddjljfaaGreatDoor
open Go.RowKit Go.Shelf
attribute [local go_sem] Oper.semAt_some
def Live (us:Nat→Value)(hs:Nat→ByteArray)(i:Nat):Prop:=(∃t b,us i=.iface t (ptr b))∨(us i=.nilIface∧hs i≠e0)
inductive Pts (B:Nat) (us:Nat→Value) (hs:Nat→ByteArray) (x0:ByteArray) (W:World):Nat→List Pt→Prop
 | none:x0=e0→Pts B us hs x0 W 0 []
 | value (x:Pt):x0≠e0→x.cells=[.slice .none 0 0,.string x0,.nilIface,.string e0]→Pts B us hs x0 W 0 [x]
 | skip (i:Nat) (xs:List Pt):Pts B us hs x0 W i xs→us i=.nilIface→hs i=e0→Pts B us hs x0 W (i+1) xs
 | take (i:Nat) (xs:List Pt) (x:Pt) (g:Nat):Pts B us hs x0 W i xs→Live us hs i→B≤g→W.heap[g]? = some (.cells #[.int .i64 (i:Int)] 3 (0,0)) →
    x.cells=[.slice (some ⟨g,0,.none⟩) 1 1,.string e0,us i,.string (hs i)]→Pts B us hs x0 W (i+1) (xs++[x])
theorem Pts.keep {B:Nat}{us:Nat→Value}{hs:Nat→ByteArray}{x0:ByteArray}{W W' : World}{i:Nat}{xs:List Pt}(h:Pts B us hs x0 W i xs)
  (hk:∀(g:Nat) (cs:Array Value),W.heap[g]? = some (.cells cs 3 (0,0))→W'.heap[g]? = some (.cells cs 3 (0,0))):Pts B us hs x0 W' i xs:=by
 induction h with
 | none h=>exact .none h
 | value x h1 h2=>exact .value x h1 h2
 | skip i xs _ h1 h2 ih=>exact .skip i xs ih h1 h2
 | take i xs x g _ h1 h2 h3 h4 ih=>exact .take i xs x g ih h1 h2 (hk _ _ h3) h4
theorem Pts.len {B:Nat}{us:Nat→Value}{hs:Nat→ByteArray}{x0:ByteArray}{W:World}{i:Nat}{xs:List Pt}(h:Pts B us hs x0 W i xs):xs.length≤i+1:=by
 induction h with
 | none h=>simp
 | value x h1 h2=>simp
 | skip i xs _ h1 h2 ih=>omega
 | take i xs x g _ h1 h2 h3 h4 ih=>simp;omega
def brRefs (us:Nat→Value)(hs:Nat→ByteArray):List Value:=(List.range 32).map fun j=>if j % 2=0 then us (j / 2) else .string (hs (j / 2))
theorem brRefs_len (us:Nat→Value)(hs:Nat→ByteArray):(brRefs us hs).length=32:=by simp[brRefs]
theorem brRefs_get (us:Nat→Value)(hs:Nat→ByteArray)(j:Nat)(h:j<32):(brRefs us hs).toArray[j]? = some (if j % 2=0 then us (j / 2) else .string (hs (j / 2))):=by simp[brRefs,h]
theorem brRefs_pair (us:Nat→Value)(hs:Nat→ByteArray)(i:Nat)(hi:i<16):(brRefs us hs).toArray.extract (i*2) (i*2+2)=#[us i,.string (hs i)]:=by
 apply Array.ext_getElem?
 intro j
 have e1:i*2 / 2=i:=by omega
 have e2:(i*2+1) / 2=i:=by omega
 have hz:(brRefs us hs).toArray.size=32:=by rw[List.size_toArray,brRefs_len]
 have hm:min (i*2+2) 32=i*2+2:=by omega
 rw[Array.getElem?_extract,hz,hm]
 rcases j with _|_|j
 ·rw[if_pos (by omega),brRefs_get _ _ _ (by omega),if_pos (by omega)]
  show some (us (i*2 / 2))=_
  rw[e1];rfl
 ·rw[if_pos (by omega),brRefs_get _ _ _ (by omega),if_neg (by omega)]
  show some (Value.string (hs ((i*2+1) / 2)))=_
  rw[e2];rfl
 ·rw[if_neg (by omega)]
  simp
theorem brRefs_at {w:World}{bb:Nat}{us:Nat→Value}{hs:Nat→ByteArray}{x0:ByteArray}{t:TypeId}(hc:w.heap[bb]? = some (.cells (brCells us hs x0) t (0,0))):w.rangeAt bb 0 (brRefs us hs):=by
 intro j v hv
 have hj:j<32:=by
  have:=(List.getElem?_eq_some_iff.1 hv).1
  rwa [brRefs_len] at this
 have hv' : v=brCell us hs x0 j:=by
  simp[brRefs,hj] at hv
  unfold brCell
  rw[if_neg (by omega)]
  exact hv.symm
 have:=brCells_get us hs x0 j (by omega)
 simp[World.cell?,hc,this,hv']
theorem sizeRefs (us:Nat→Value)(hs:Nat→ByteArray):(Tryz.prog.info? 283).map (·.size)=some (brRefs us hs).length:=by rw[brRefs_len];kernel_rfl
theorem infoRef:(Tryz.prog.info? 65).map (·.size)=some 2:=by kernel_rfl
theorem run_refs (w:World)(us:Nat→Value)(hs:Nat→ByteArray)(i:Nat)(hi:i<16):(Instr.index 283 (.agg (brRefs us hs).toArray) (.int .i64 (i:Int))).run Tryz.prog w=.ok (.agg #[us i,.string (hs i)]) w:=by
 cases h:Tryz.prog.info? 65 with
 | none=>have:=infoRef;rw[h] at this;cases this
 | some inf =>
   have h2:inf.size=2:=by have:=infoRef;rw[h] at this;simpa using this
   rw[run_index_row w _ 65 16 _ inf _ _ i Tryz.underlying283 Tryz.underlying65 rfl h hi,h2,brRefs_pair us hs i hi]
theorem cell_alloc_new (w:World)(cs:Array Value)(t:TypeId)(j:Nat)(v:Value)(h:cs[j]? = some v:=by rfl):(w.alloc (.cells cs t)).cell? ⟨w.heap.size,j,none⟩=some v:=by
 have h2:=heap_alloc_new w (.cells cs t)
 unfold World.cell?
 rw[h2]
 exact h
set_option maxRecDepth 100000 in
theorem brParts_in (F:Fence)(n:Nat)(h0:F.fn 188)(h1:F.fn 80)(hro:F.round=none)(hn:2≤n)(l bx bb B:Nat)(us:Nat→Value)(hs:Nat→ByteArray)(W:World)
  (hus:∀i,i<16→(us i=.nilIface∧hs i=e0)∨Live us hs i) (J:List Pt→World→Prop) (hJ:∀pre A A', J pre A→Below A.heap.size A A' → J pre A')
  (hY:∀pre x W1,J pre W1→pre.length<1000→YieldAt F (n - 1) Tryz.prog l (Pt.enc x) W1 fun e W' => e=.returned (.bool true)∧J (pre++[x]) W' ∧ KpT W1 W') (hB:B≤W.heap.size)
  (hb:W.heap[bx]? = some (.cells #[.pointer (some ⟨bb,0,none⟩)] 252 (0,0))) (hc:W.heap[bb]? = some (.cells (brCells us hs e0) 285 (0,0))) (hJ0:J [] W) :
  CallsIn F n Tryz.prog 188 #[.func (.yield l) #[] #[],.pointer (some ⟨bx,0,none⟩)] W fun e W' => (∃v,e=.returned v)∧∃xs,Pts B us hs e0 W' 16 xs∧J xs W' := by
 have c0:W.cell? ⟨bx,0,none⟩=some (.pointer (some ⟨bb,0,none⟩)):=by simp[World.cell?,hb]
 have c1:W.cell? ⟨bb,32,none⟩=some (.string ⟨#[]⟩):=by
  have:=brCells_get us hs e0 32 (by omega)
  simp[World.cell?,hc,this,brCell]
 have hrg:=brRefs_at hc
 have hsz:=sizeRefs us hs
 have hidx:=fun w i hi=>run_refs w us hs i hi
 generalize brRefs us hs=R at *
 refine callsIn_of_wp Tryz.func188 rfl h0 ?_ hro
 simp only[Tryz.ntmps188,List.size_toArray,List.length_cons,List.length_nil,Nat.reduceAdd,Nat.reduceSub,Array.replicate_succ,Array.replicate_zero,List.push_toArray,List.append_toArray,List.nil_append,List.cons_append]
 gi_wp2_with (first
  | (refine wpListIn_load_mid rfl 283 (.tmp 22) rfl bb 0 rfl R _ hrg Tryz.underlying283 rfl hsz ?_)
  | (refine wpListIn_skip rfl rfl ?_))
 gi_loopw [24] (fun iv wr=>∃(i:Nat) (xs:List Pt),i≤16∧iv=.int .i64 (i:Int)∧Pts B us hs e0 wr i xs∧J xs wr∧W.heap.size≤wr.heap.size) (fun iv _=>16 - (intOf iv).toNat)
 case atStart=>exact⟨0,[],by omega,rfl,.none rfl,hJ0,Nat.le_refl _⟩
 case round =>
  obtain⟨i,xs,hi,rfl,hP,hJx,hsw⟩:=hrel
  by_cases hlt:i<16
  ·have hix:=hidx wr i hlt
   rcases hus i hlt with⟨e1,e2⟩|hliv
   ·rw[e1,e2] at hix
    gi_wp2_with fail
    refine⟨fun _=>by omega,CallsIn.mono (isEmpty_in_yes F _ h1 hro _ 0 _ (cell_alloc_new wr _ _ 0 _) (cell_alloc_new wr _ _ 1 _)) ?_⟩
    rintro e w2 ⟨rfl,rfl⟩
    gi_wp2_with (refine wpListIn_skip rfl rfl ?_)
    refine⟨⟨i+1,xs,by omega,by simp,(hP.keep fun g cs h=>?_).skip i xs e1 e2,hJ _ _ _ hJx (below_alloc wr _),by simp;omega⟩,by simp[intOf];omega⟩
    rw[Below.heap_alloc _ _ _ (aGe.1 h).1]
    exact h
   ·have hliv' := hliv
    rcases hliv' with⟨t,b,e1⟩|⟨e1,e2⟩
    ·rw[e1] at hix
     have hx:isNd (.iface t (ptr b)):=.inr ⟨t,b,rfl⟩
     have bel:Below wr.heap.size wr ((wr.alloc (.cells #[.iface t (ptr b),.string (hs i)] 65)).alloc (.cells #[.int .i64 (i:Int)] 3)):=(below_alloc wr _).alloc (by simp) _
     obtain⟨fn,tmps,assign,body,hy,hR⟩:=hY xs ⟨some ⟨wr.heap.size+1,0,none⟩,1,1,e0,.iface t (ptr b),hs i,hx⟩ _ (hJ _ _ _ hJx bel) (by have:=hP.len;omega)
     dsimp only[Pt.enc] at hy
     gi_wp2_with fail
     refine⟨fun _=>by omega,CallsIn.mono (isEmpty_in_no F _ h1 hro _ 0 t b _ (cell_alloc_new wr _ _ 0 _)) ?_⟩
     rintro e w2 ⟨rfl,rfl⟩
     gi_wp2_with fail
     refine⟨fun _=>by omega,hR.mono ?_⟩
     rintro e W3 ⟨rfl,hJ3,hk3⟩
     gi_wp2_with fail
     have hz:=hk3.size
     simp only[World.size_alloc] at hz
     refine⟨⟨i+1,xs++[_],by omega,by simp,(hP.keep fun g cs h=>?_).take i xs _ (wr.heap.size+1) hliv (by omega) (hk3.same _ _ _ _ ?_ (by decide) (by decide)) ?_,hJ3,by omega⟩,by simp[intOf];omega⟩
     ·refine hk3.same _ _ _ _ ?_ (by decide) (by decide)
      rw[bel.block _ (aGe.1 h).1]
      exact h
     ·have:=heap_alloc_new (wr.alloc (.cells #[.iface t (ptr b),.string (hs i)] 65)) (.cells #[.int .i64 (i:Int)] 3)
      rw[World.size_alloc] at this
      exact this
     ·rw[e1];rfl
    ·rw[e1] at hix
     have hx:isNd .nilIface:=.inl rfl
     have bel:Below wr.heap.size wr ((wr.alloc (.cells #[.nilIface,.string (hs i)] 65)).alloc (.cells #[.int .i64 (i:Int)] 3)):=(below_alloc wr _).alloc (by simp) _
     obtain⟨fn,tmps,assign,body,hy,hR⟩:=hY xs ⟨some ⟨wr.heap.size+1,0,none⟩,1,1,e0,.nilIface,hs i,hx⟩ _ (hJ _ _ _ hJx bel) (by have:=hP.len;omega)
     dsimp only[Pt.enc] at hy
     gi_wp2_with fail
     refine⟨fun _=>by omega,CallsIn.mono (isEmpty_in_hash F _ h1 hro _ 0 (hs i) _ (empty_of_ne e2) (cell_alloc_new wr _ _ 0 _) (cell_alloc_new wr _ _ 1 _)) ?_⟩
     rintro e w2 ⟨rfl,rfl⟩
     gi_wp2_with fail
     refine⟨fun _=>by omega,hR.mono ?_⟩
     rintro e W3 ⟨rfl,hJ3,hk3⟩
     gi_wp2_with fail
     have hz:=hk3.size
     simp only[World.size_alloc] at hz
     refine⟨⟨i+1,xs++[_],by omega,by simp,(hP.keep fun g cs h=>?_).take i xs _ (wr.heap.size+1) hliv (by omega) (hk3.same _ _ _ _ ?_ (by decide) (by decide)) ?_,hJ3,by omega⟩,by simp[intOf];omega⟩
     ·refine hk3.same _ _ _ _ ?_ (by decide) (by decide)
      rw[bel.block _ (aGe.1 h).1]
      exact h
     ·have:=heap_alloc_new (wr.alloc (.cells #[.nilIface,.string (hs i)] 65)) (.cells #[.int .i64 (i:Int)] 3)
      rw[World.size_alloc] at this
      exact this
     ·rw[e1];rfl
  ·obtain rfl:i=16:=by omega
   gi_wp2
   go_end0
   exact⟨⟨_,rfl⟩,xs,hP,hJx⟩
set_option maxRecDepth 100000 in
theorem brParts_in_v (F:Fence)(n:Nat)(h0:F.fn 188)(h1:F.fn 80)(hro:F.round=none)(hn:2≤n)(l bx bb B:Nat)(us:Nat→Value)(hs:Nat→ByteArray)(W:World)(x0:ByteArray)(hne:x0≠e0)(hne2:¬x0.toList=[])
  (hus:∀i,i<16→(us i=.nilIface∧hs i=e0)∨Live us hs i) (J:List Pt→World→Prop) (hJ:∀pre A A', J pre A→Below A.heap.size A A' → J pre A')
  (hY:∀pre x W1,J pre W1→pre.length<1000→YieldAt F (n - 1) Tryz.prog l (Pt.enc x) W1 fun e W' => e=.returned (.bool true)∧J (pre++[x]) W' ∧ KpT W1 W') (hB:B≤W.heap.size)
  (hb:W.heap[bx]? = some (.cells #[.pointer (some ⟨bb,0,none⟩)] 252 (0,0))) (hc:W.heap[bb]? = some (.cells (brCells us hs x0) 285 (0,0))) (hJ0:J [] W) :
  CallsIn F n Tryz.prog 188 #[.func (.yield l) #[] #[],.pointer (some ⟨bx,0,none⟩)] W fun e W' => (∃v,e=.returned v)∧∃xs,Pts B us hs x0 W' 16 xs∧J xs W' := by
 have c0:W.cell? ⟨bx,0,none⟩=some (.pointer (some ⟨bb,0,none⟩)):=by simp[World.cell?,hb]
 have c1:W.cell? ⟨bb,32,none⟩=some (.string x0):=by
  have:=brCells_get us hs x0 32 (by omega)
  simp[World.cell?,hc,this,brCell]
 have hsz:=sizeRefs us hs
 have hidx:=fun w i hi=>run_refs w us hs i hi
 have hrg0:∀w:World,w.heap[bb]? = some (.cells (brCells us hs x0) 285 (0,0))→w.rangeAt bb 0 (brRefs us hs):=fun w h=>brRefs_at h
 generalize brRefs us hs=R at *
 obtain⟨fn,tmps,assign,body,hy,hR⟩:=hY [] ⟨none,0,0,x0,.nilIface,e0,.inl rfl⟩ W hJ0 (by simp)
 dsimp only[Pt.enc] at hy
 refine callsIn_of_wp Tryz.func188 rfl h0 ?_ hro
 simp only[Tryz.ntmps188,List.size_toArray,List.length_cons,List.length_nil,Nat.reduceAdd,Nat.reduceSub,Array.replicate_succ,Array.replicate_zero,List.push_toArray,List.append_toArray,List.nil_append,List.cons_append]
 gi_wp2_with fail
 refine⟨fun _=>by omega,hR.mono ?_⟩
 rintro e W3 ⟨rfl,hJ3,hk3⟩
 have hb3:=hk3.same _ _ _ _ hb (by decide) (by decide)
 have hc3:=hk3.same _ _ _ _ hc (by decide) (by decide)
 have c3:W3.cell? ⟨bx,0,none⟩=some (.pointer (some ⟨bb,0,none⟩)):=by simp[World.cell?,hb3]
 clear hy hR
 gi_wp2_with (first
  | (refine wpListIn_load_mid rfl 283 (.tmp 22) rfl bb 0 rfl R _ (hrg0 W3 hc3) Tryz.underlying283 rfl hsz ?_)
  | (refine wpListIn_skip rfl rfl ?_))
 gi_loopw [24] (fun iv wr=>∃(i:Nat) (xs:List Pt),i≤16∧iv=.int .i64 (i:Int)∧Pts B us hs x0 wr i xs∧J xs wr∧W.heap.size≤wr.heap.size) (fun iv _=>16 - (intOf iv).toNat)
 case atStart=>exact⟨0,[_],by omega,rfl,.value _ hne rfl,hJ3,hk3.size⟩
 case round =>
  obtain⟨i,xs,hi,rfl,hP,hJx,hsw⟩:=hrel
  by_cases hlt:i<16
  ·have hix:=hidx wr i hlt
   rcases hus i hlt with⟨e1,e2⟩|hliv
   ·rw[e1,e2] at hix
    gi_wp2_with fail
    refine⟨fun _=>by omega,CallsIn.mono (isEmpty_in_yes F _ h1 hro _ 0 _ (cell_alloc_new wr _ _ 0 _) (cell_alloc_new wr _ _ 1 _)) ?_⟩
    rintro e w2 ⟨rfl,rfl⟩
    gi_wp2_with (refine wpListIn_skip rfl rfl ?_)
    refine⟨⟨i+1,xs,by omega,by simp,(hP.keep fun g cs h=>?_).skip i xs e1 e2,hJ _ _ _ hJx (below_alloc wr _),by simp;omega⟩,by simp[intOf];omega⟩
    rw[Below.heap_alloc _ _ _ (aGe.1 h).1]
    exact h
   ·have hliv' := hliv
    rcases hliv' with⟨t,b,e1⟩|⟨e1,e2⟩
    ·rw[e1] at hix
     have hx:isNd (.iface t (ptr b)):=.inr ⟨t,b,rfl⟩
     have bel:Below wr.heap.size wr ((wr.alloc (.cells #[.iface t (ptr b),.string (hs i)] 65)).alloc (.cells #[.int .i64 (i:Int)] 3)):=(below_alloc wr _).alloc (by simp) _
     obtain⟨fn', tmps', assign', body', hy', hR'⟩:=hY xs ⟨some ⟨wr.heap.size+1,0,none⟩,1,1,e0,.iface t (ptr b),hs i,hx⟩ _ (hJ _ _ _ hJx bel) (by have:=hP.len;omega)
     dsimp only[Pt.enc] at hy'
     gi_wp2_with fail
     refine⟨fun _=>by omega,CallsIn.mono (isEmpty_in_no F _ h1 hro _ 0 t b _ (cell_alloc_new wr _ _ 0 _)) ?_⟩
     rintro e w2 ⟨rfl,rfl⟩
     gi_wp2_with fail
     refine⟨fun _=>by omega,hR'.mono ?_⟩
     rintro e W4 ⟨rfl,hJ4,hk4⟩
     gi_wp2_with fail
     have hz:=hk4.size
     simp only[World.size_alloc] at hz
     refine⟨⟨i+1,xs++[_],by omega,by simp,(hP.keep fun g cs h=>?_).take i xs _ (wr.heap.size+1) hliv (by omega) (hk4.same _ _ _ _ ?_ (by decide) (by decide)) ?_,hJ4,by omega⟩,by simp[intOf];omega⟩
     ·refine hk4.same _ _ _ _ ?_ (by decide) (by decide)
      rw[bel.block _ (aGe.1 h).1]
      exact h
     ·have:=heap_alloc_new (wr.alloc (.cells #[.iface t (ptr b),.string (hs i)] 65)) (.cells #[.int .i64 (i:Int)] 3)
      rw[World.size_alloc] at this
      exact this
     ·rw[e1];rfl
    ·rw[e1] at hix
     have hx:isNd .nilIface:=.inl rfl
     have bel:Below wr.heap.size wr ((wr.alloc (.cells #[.nilIface,.string (hs i)] 65)).alloc (.cells #[.int .i64 (i:Int)] 3)):=(below_alloc wr _).alloc (by simp) _
     obtain⟨fn', tmps', assign', body', hy', hR'⟩:=hY xs ⟨some ⟨wr.heap.size+1,0,none⟩,1,1,e0,.nilIface,hs i,hx⟩ _ (hJ _ _ _ hJx bel) (by have:=hP.len;omega)
     dsimp only[Pt.enc] at hy'
     gi_wp2_with fail
     refine⟨fun _=>by omega,CallsIn.mono (isEmpty_in_hash F _ h1 hro _ 0 (hs i) _ (empty_of_ne e2) (cell_alloc_new wr _ _ 0 _) (cell_alloc_new wr _ _ 1 _)) ?_⟩
     rintro e w2 ⟨rfl,rfl⟩
     gi_wp2_with fail
     refine⟨fun _=>by omega,hR'.mono ?_⟩
     rintro e W4 ⟨rfl,hJ4,hk4⟩
     gi_wp2_with fail
     have hz:=hk4.size
     simp only[World.size_alloc] at hz
     refine⟨⟨i+1,xs++[_],by omega,by simp,(hP.keep fun g cs h=>?_).take i xs _ (wr.heap.size+1) hliv (by omega) (hk4.same _ _ _ _ ?_ (by decide) (by decide)) ?_,hJ4,by omega⟩,by simp[intOf];omega⟩
     ·refine hk4.same _ _ _ _ ?_ (by decide) (by decide)
      rw[bel.block _ (aGe.1 h).1]
      exact h
     ·have:=heap_alloc_new (wr.alloc (.cells #[.nilIface,.string (hs i)] 65)) (.cells #[.int .i64 (i:Int)] 3)
      rw[World.size_alloc] at this
      exact this
     ·rw[e1];rfl
  ·obtain rfl:i=16:=by omega
   gi_wp2
   go_end0
   exact⟨⟨_,rfl⟩,xs,hP,hJx⟩
theorem brParts_all (F:Fence)(n:Nat)(h0:F.fn 188)(h1:F.fn 80)(hro:F.round=none)(hn:2≤n)(l bx bb B:Nat)(us:Nat→Value)(hs:Nat→ByteArray)(W:World)(x0:ByteArray)
  (hus:∀i,i<16→(us i=.nilIface∧hs i=e0)∨Live us hs i) (J:List Pt→World→Prop) (hJ:∀pre A A', J pre A→Below A.heap.size A A' → J pre A')
  (hY:∀pre x W1,J pre W1→pre.length<1000→YieldAt F (n - 1) Tryz.prog l (Pt.enc x) W1 fun e W' => e=.returned (.bool true)∧J (pre++[x]) W' ∧ KpT W1 W') (hB:B≤W.heap.size)
  (hb:W.heap[bx]? = some (.cells #[.pointer (some ⟨bb,0,none⟩)] 252 (0,0))) (hc:W.heap[bb]? = some (.cells (brCells us hs x0) 285 (0,0))) (hJ0:J [] W) :
  CallsIn F n Tryz.prog 188 #[.func (.yield l) #[] #[],.pointer (some ⟨bx,0,none⟩)] W fun e W' => (∃v,e=.returned v)∧∃xs,Pts B us hs x0 W' 16 xs∧J xs W' := by
 by_cases h:x0=e0
 ·subst h
  exact brParts_in F n h0 h1 hro hn l bx bb B us hs W hus J hJ hY hB hb hc hJ0
 ·exact brParts_in_v F n h0 h1 hro hn l bx bb B us hs W x0 h (fun e=>h (e0_of_toList e)) hus J hJ hY hB hb hc hJ0
set_option maxRecDepth 100000 in
theorem collect_parts (bx bb:Nat)(us:Nat→Value)(hs:Nat→ByteArray)(x0:ByteArray)(w:World)(hus:∀i,i<16→(us i=.nilIface∧hs i=e0)∨Live us hs i)
  (hb:w.heap[bx]? = some (.cells #[.pointer (some ⟨bb,0,none⟩)] 252 (0,0))) (hc:w.heap[bb]? = some (.cells (brCells us hs x0) 285 (0,0))) :
  Calls Tryz.prog 178 #[.func (.func 188) #[] #[.pointer (some ⟨bx,0,none⟩)]] w fun e w' => ∃v xs,e=.returned v∧w'.ownsRow (w.heap.size+1) 191 4 v xs.length (ptCells xs)∧Pts (w.heap.size+1) us hs x0 w' 16 xs∧Below w.heap.size w w' := by
 refine (callsIn_wide (n:=5)).1 ?_
 have hA:=appendSeq_in Fence.wide 4 trivial rfl (by omega) (gf:=188) (lb:=#[.pointer (some ⟨bx,0,none⟩)]) trivial (fun args w=>by kernel_rfl) w (Fx:=fun _ _=>True) (S:=fun xs W=>Pts (w.heap.size+1) us hs x0 W 16 xs)
  (fun _ _ _ _ _=>trivial) (fun xs A A' h ht=>h.keep fun g cs hg=>ht.same _ _ hg (.inr rfl)) ?hseq
 case hseq =>
  intro l J W hW hJ hY hJ0
  have old:∀(k:Nat) cs t,w.heap[k]? = some (.cells cs t (0,0))→W.heap[k]? = some (.cells cs t (0,0)):=fun k cs t h=>hW.same _ _ ((Below.heap_alloc _ _ _ (aGe.1 h).1).trans h) (.inr rfl)
  have hz:=hW.size
  simp only[World.size_alloc] at hz
  refine CallsIn.mono (brParts_all Fence.wide 3 trivial trivial rfl (by omega) l bx bb (w.heap.size+1) us hs W x0 hus J hJ (fun pre x W1 h1 h2=>hY pre x W1 h1 trivial h2) hz (old _ _ _ hb) (old _ _ _ hc) hJ0) ?_
  rintro e W' ⟨h1,xs,h2,h3⟩
  exact⟨h1,xs,⟨h2,by have:=h2.len;omega⟩,h3⟩
 refine callsIn_of_wp Tryz.func178 rfl trivial ?_ rfl
 simp only[Tryz.ntmps178,List.size_toArray,List.length_cons,List.length_nil,Nat.reduceAdd,Nat.reduceSub,Array.replicate_succ,Array.replicate_zero,List.push_toArray,List.append_toArray,List.nil_append,List.cons_append]
 gi_wp2_with fail
 refine⟨trivial,hA.mono ?_⟩
 rintro e w' ⟨v,xs,rfl,h1,h2,h3⟩
 gi_wp2
 go_ret
 exact⟨v,xs,rfl,h1,h2,h3⟩
end Go.Proofs.YthdjmldddjljfaaGreatDoor
namespace Go.Proofs.YthdjmldddjljfaaGreatDoor
open Go.RowKit Go.Shelf
theorem brParts_made (b:Nat)(w:World):Calls Tryz.prog 179 #[ptr b] w fun e w' =>
  e=.returned (.func (.func 188) #[] #[.pointer (some ⟨w.heap.size,0,none⟩)])∧w' = w.alloc (.cells #[ptr b] 252):=by
 unfold ptr
 go_enter Tryz.func179,Tryz.ntmps179
 go_wp2
 go_ret
 exact⟨rfl,rfl⟩
def RefPt (B:Nat)(us:Nat→Value)(hs:Nat→ByteArray)(W:World)(i:Nat)(x:Pt):Prop:=∃g t b,us i=.iface t (ptr b)∧B≤g∧W.heap[g]? = some (.cells #[.int .i64 (i:Int)] 3 (0,0))∧x.cells=[.slice (some ⟨g,0,.none⟩) 1 1,.string e0,us i,.string (hs i)]
def ValPts (x0:ByteArray)(vs:List Pt):Prop:=(x0=e0∧vs=[])∨(x0≠e0∧∃x:Pt,vs=[x]∧x.cells=[.slice .none 0 0,.string x0,.nilIface,.string e0])
inductive Both {α β:Type} (R:α→β→Prop):List α→List β→Prop
 | nil:Both R [] []
 | cons {a:α} {b:β} {l:List α} {m:List β}:R a b→Both R l m→Both R (a :: l) (b :: m)
theorem Both.len {α β:Type}{R:α→β→Prop}{l:List α}{m:List β}(h:Both R l m):l.length=m.length:=by
 induction h with
 | nil=>rfl
 | cons _ _ ih=>simp[ih]
theorem both_snoc {α β:Type}{R:α→β→Prop}{l:List α}{m:List β}{a:α}{b:β}(h:Both R l m)(hab:R a b):Both R (l++[a]) (m++[b]):=by
 induction h with
 | nil=>exact .cons hab .nil
 | cons h _ ih=>exact .cons h ih
theorem Pts.form {B:Nat}{us:Nat→Value}{hs:Nat→ByteArray}{x0:ByteArray}{W:World}{c:Nat→Nd}(hc:∀j,j<16→(us j=.nilIface↔(c j).isNil=true))(hnh:∀j,j<16→us j=.nilIface→hs j=e0){i:Nat}{xs:List Pt}(h:Pts B us hs x0 W i xs)(hi:i≤16) :
  ∃vs rs,xs=vs++rs∧ValPts x0 vs∧Both (RefPt B us hs W) ((List.range i).filter (fun j=>!(c j).isNil)) rs:=by
 induction h with
 | none h=>exact⟨[],[],rfl,.inl ⟨h,rfl⟩,.nil⟩
 | value x h1 h2=>exact⟨[x],[],rfl,.inr ⟨h1,x,rfl,h2⟩,.nil⟩
 | skip i xs _ h1 h2 ih =>
   obtain⟨vs,rs,e,hv,hr⟩:=ih (by omega)
   have:=(hc i (by omega)).1 h1
   refine⟨vs,rs,e,hv,?_⟩
   rw[List.range_succ,List.filter_append]
   simpa[this] using hr
 | take i xs x g _ h1 h2 h3 h4 ih =>
   obtain⟨vs,rs,e,hv,hr⟩:=ih (by omega)
   obtain⟨t,b,h1⟩:∃t b,us i=.iface t (ptr b):=by
    rcases h1 with h1|⟨h1,h5⟩
    ·exact h1
    ·exact absurd (hnh i (by omega) h1) h5
   have hn:(c i).isNil=false:=by
    cases hb:(c i).isNil with
    | false=>rfl
    | true=>have:=(hc i (by omega)).2 hb;rw[h1] at this;cases this
   refine⟨vs,rs++[x],by rw[e,List.append_assoc],hv,?_⟩
   rw[List.range_succ,List.filter_append]
   have:List.filter (fun j=>!(c j).isNil) [i]=[i]:=by simp[hn]
   rw[this]
   exact both_snoc hr ⟨g,t,b,h1,h2,h3,h4⟩
theorem e0_iff {s:ByteArray}:s.size=0↔s=e0:=by
 constructor
 ·intro h
  cases s with
  | mk d=>exact congrArg ByteArray.mk (Array.size_eq_zero_iff.1 h)
 ·rintro rfl
  rfl
theorem Pts.count {B:Nat}{us:Nat→Value}{hs:Nat→ByteArray}{x0:ByteArray}{W:World}{c:Nat→Nd}(hc:∀j,j<16→(us j=.nilIface↔(c j).isNil=true))(hnh:∀j,j<16→us j=.nilIface→hs j=e0){xs:List Pt}(h:Pts B us hs x0 W 16 xs):xs.length=nParts c x0:=by
 obtain⟨vs,rs,rfl,hv,hr⟩:=h.form hc hnh (Nat.le_refl _)
 have hl:=hr.len
 unfold nParts full
 rcases hv with⟨e,rfl⟩|⟨e,x,rfl,_⟩
 ·rw[if_pos (e0_iff.2 e),hl];simp
 ·rw[if_neg (fun h=>e (e0_iff.1 h)),hl];simp;omega
theorem no_hash {us:Nat→Value}{hs:Nat→ByteArray}(hus:∀i,i<16→(us i=.nilIface∧hs i=e0)∨∃t b,us i=.iface t (ptr b)):∀j,j<16→us j=.nilIface→hs j=e0:=fun j hj e=>by
 rcases hus j hj with⟨_,h⟩|⟨t,b,h⟩
 ·exact h
 ·rw[h] at e;cases e
theorem live_of {us:Nat→Value}{hs:Nat→ByteArray}(hus:∀i,i<16→(us i=.nilIface∧hs i=e0)∨∃t b,us i=.iface t (ptr b)):∀i,i<16→(us i=.nilIface∧hs i=e0)∨Live us hs i:=fun i hi=>(hus i hi).imp id .inl
end Go.Proofs.YthdjmldddjljfaaGreatDoor
