/-
  OUR OWN.
-/
import Derived.Test.YthdjmldddjljfaaGreatDoorH16
import Derived.Deep.RegionLaw
import Derived.Deep.RegionWith
set_option maxHeartbeats 8000000
set_option maxRecDepth 20000
namespace Go.Proofs.YthdjmldddjljfaaGreatDoor
open Go.RowKit
attribute [local go_sem ↓] Go.wp_at_zero Go.wp_at_succ
structure Fork (w:World)(bk:Nat)(us:Nat→Value)(hs:Nat→ByteArray)(x:ByteArray):Prop where
 blk:w.heap[bk]? = some (.cells (brCells us hs x) 285 (0,0))
theorem Fork.lt {w:World}{bk:Nat}{us:Nat→Value}{hs:Nat→ByteArray}{x:ByteArray}(h:Fork w bk us hs x):bk<w.heap.size:=(aGe.1 h.blk).1
theorem grown_cell (w:World)(b j:Nat)(u:Value):w.grownBy (w.setCell ⟨b,j,none⟩ u) (some b) :=
 ⟨rfl,rfl,rfl,by simp[World.setCell],fun k _ hne=>Below.heap_setCell _ _ _ _ (fun e=>hne (by have e:k=b:=e;rw[e]))⟩
theorem grown_trans {w w1 w2:World}{row:Option Nat}(h1:w.grownBy w1 row)(h2:w1.grownBy w2 row):w.grownBy w2 row :=
 ⟨h2.os.trans h1.os,h2.tape.trans h1.tape,h2.output.trans h1.output,Nat.le_trans h1.size h2.size,fun k hk hne=>(h2.block k (Nat.lt_of_lt_of_le hk h1.size) hne).trans (h1.block k hk hne)⟩
theorem below_grown {w w1:World}(h:Below w.heap.size w w1)(row:Option Nat):w.grownBy w1 row:=⟨h.os,h.tape,h.output,h.size,fun k hk _=>h.block k hk⟩
theorem hang_nil (bk:Nat)(us:Nat→Value)(hs:Nat→ByteArray)(x:ByteArray)(ao:Option Addr)(cap:Nat)(y:ByteArray)(w:World)(hf:Fork w bk us hs x) :
  Calls Tryz.prog 215 #[ptr bk,.slice ao 0 cap,.string y] w fun e w' => e=.returned (.tuple #[])∧w.grownBy w' (some bk)∧Fork w' bk us hs y:=by
 have hv:=br_val hf.blk
 have hz:=frozen_of_row w bk 32 _ _ hf.blk
 have HF:=hide hf
 clear hf
 unfold ptr
 go_enter Tryz.func215,Tryz.ntmps215
 go_wp2
 refine bodyPost_ret (results_none rfl _ _ _) rfl ⟨rfl,grown_cell _ _ _ _,⟨?_⟩⟩
 have h:=heap_setCell_same w bk 32 _ 285 (.string y) HF.out.blk
 rw[brCells_val] at h
 exact h
theorem hang_cons (Hk:Nd→ByteArray→Prop)(bk:Nat)(us:Nat→Value)(hs:Nat→ByteArray)(x:ByteArray)(ao:Option Addr)(cap:Nat)(i:Nat)(p:List Nat)(y:ByteArray)(w:World)(hf:Fork w bk us hs x)(hp:Nums w ao (i :: p))(hi:i<16)(hc:(i :: p).length≤cap)(hm:p.length≤900) :
  Calls Tryz.prog 215 #[ptr bk,.slice ao (i :: p).length cap,.string y] w fun e w' => e=.returned (.tuple #[])∧w.grownBy w' (some bk)∧∃b,w.heap.size≤b∧Fork w' bk (updV us i (.iface 153 (ptr b))) (updV hs i e0) x∧NdAt Hk (fun k=>w.heap.size≤k) w' (.leaf p y) (.iface 153 (ptr b)):=by
 obtain⟨gb,off,rfl,p0⟩:=hp.at' 0 (by simp)
 have hd:Nums w (some ⟨gb,off+1,none⟩) p:=hp.drop 1
 have hpl:=World.block_lt_of_cell? w _ p0
 simp only[List.getD_cons_zero,Nat.add_zero] at p0
 have HF:=hide hf
 have cI:((p.length:Int)+1)≤(cap:Int):=by simp at hc;omega
 have hl:((i :: p).length:Int)=(p.length:Int)+1:=by simp
 have iI:(i:Int)<16:=by omega
 have i0:(0:Int)≤(i:Int):=by omega
 have c1:(1:Int)≤(p.length:Int)+1:=by omega
 have fin:∀(W w1:World) (b:Nat),Below w.heap.size w W→(b+1=w1.heap.size∧W.heap.size≤b∧NdAt Hk (fun k=>W.heap.size≤k) w1 (.leaf p y) (.iface 153 (ptr b))∧Below W.heap.size W w1∧Fork w1 bk us hs x) →
   w.grownBy ((w1.setCell ⟨bk,i*2,none⟩ (.iface 153 (ptr b))).setCell ⟨bk,i*2+1,none⟩ (.string e0)) (some bk)∧∃b', w.heap.size≤b' ∧ Fork ((w1.setCell ⟨bk,i*2,none⟩ (.iface 153 (ptr b))).setCell ⟨bk,i*2+1,none⟩ (.string e0)) bk (updV us i (.iface 153 (ptr b'))) (updV hs i e0) x∧NdAt Hk (fun k=>w.heap.size≤k) ((w1.setCell ⟨bk,i*2,none⟩ (.iface 153 (ptr b))).setCell ⟨bk,i*2+1,none⟩ (.string e0)) (.leaf p y) (.iface 153 (ptr b')):=by
  rintro W w1 b hW ⟨f1,f2,f3,f4,f5⟩
  have hbk:=hf.lt
  have hWs:=hW.size
  refine⟨grown_trans (below_grown (hW.trans (f4.mono hWs)) _) (grown_trans (grown_cell _ _ _ _) (grown_cell _ _ _ _)),b,by omega,⟨?_⟩,?_⟩
  ·have h1:=heap_setCell_same w1 bk (i*2) _ 285 (.iface 153 (ptr b)) f5.blk
   have h2:=heap_setCell_same _ bk (i*2+1) _ 285 (.string e0) h1
   rw[brCells_set us hs x i hi] at h2
   exact h2
  ·refine NdAt.mono (ok:=fun k=>W.heap.size≤k) (fun k hk=>Nat.le_trans hWs hk) _ _ (NdAt.keepIn (fun k hk _=>?_) _ _ f3)
   rw[Below.heap_setCell _ _ _ _ (fun e=>by have e:k=bk:=e;omega),Below.heap_setCell _ _ _ _ (fun e=>by have e:k=bk:=e;omega)]
 have HFI:=hide fin
 have mk:∀(ad:Addr) (c:Nat),Nums w (some ad) p→p.length≤c→∀W,Below w.heap.size w W→Calls Tryz.prog 81 #[.slice (some ad) p.length c,.string y] W fun e w' => ∃b,e=.returned (ptr b)∧b+1=w'.heap.size∧W.heap.size≤b∧NdAt Hk (fun k=>W.heap.size≤k) w' (.leaf p y) (.iface 153 (ptr b))∧Below W.heap.size W w' :=
  fun ad c hn hc W hW=>newLeaf_any Hk (some ad) c p y W (hn.keep hW (Nat.le_refl _)) (fun h=>by cases h) hc (by omega)
 clear hf hp fin
 unfold ptr at *
 by_cases hcap:cap=1
 ·subst hcap
  obtain rfl:p=[]:=List.length_eq_zero_iff.1 (by simp at hc;omega)
  have HN:=hide (mk ⟨gb,off,none⟩ 0 (Nums.nil (fun a e=>by injection e with e;rw[←e])) (by simp))
  clear mk hd hc
  go_enter Tryz.func215,Tryz.ntmps215
  go_wp2_with fail
  go_region_with ((go_at_call 81;refine (HN.out _ (by first|exact drew_below _ _|exact (Below.refl _ _).drew|exact Below.refl _ _)).mono ?_;rintro e w1 ⟨b,rfl,hb1,hb2,hnd,hbel⟩;have hp1:w1.cell? ⟨gb,off,none⟩=some (.int .i64 (i:Int)):=(hbel.cell (p:=⟨gb,off,none⟩) hpl).trans p0;have hF1:Fork w1 bk us hs x:=⟨(hbel.block bk HF.out.lt).trans HF.out.blk⟩;have hq0:=(br_ref hF1.blk i hi).1;have hq1:=(br_ref hF1.blk i hi).2;have hz0:=frozen_of_row w1 bk (i*2) _ _ hF1.blk;have hz1:=frozen_of_row w1 bk (i*2+1) _ _ hF1.blk;have HX:=hide (And.intro hb1 (And.intro hb2 (And.intro hnd (And.intro hbel hF1))));clear hb1 hb2 hnd hbel hF1))
  all_goals go_wp2
  all_goals go_end0
  all_goals exact⟨rfl,HFI.out _ _ _ (by first|exact drew_below _ _|exact (Below.refl _ _).drew|exact Below.refl _ _) HX.out⟩
 ·have HN:=hide (mk ⟨gb,off+1,none⟩ (cap - 1) hd (by simp at hc;omega))
  have hc1:¬(cap:Int)=1:=by omega
  clear mk hd hc
  go_enter Tryz.func215,Tryz.ntmps215
  go_wp2_with fail
  go_region_with ((go_at_call 81;refine (HN.out _ (by first|exact drew_below _ _|exact (Below.refl _ _).drew|exact Below.refl _ _)).mono ?_;rintro e w1 ⟨b,rfl,hb1,hb2,hnd,hbel⟩;have hp1:w1.cell? ⟨gb,off,none⟩=some (.int .i64 (i:Int)):=(hbel.cell (p:=⟨gb,off,none⟩) hpl).trans p0;have hF1:Fork w1 bk us hs x:=⟨(hbel.block bk HF.out.lt).trans HF.out.blk⟩;have hq0:=(br_ref hF1.blk i hi).1;have hq1:=(br_ref hF1.blk i hi).2;have hz0:=frozen_of_row w1 bk (i*2) _ _ hF1.blk;have hz1:=frozen_of_row w1 bk (i*2+1) _ _ hF1.blk;have HX:=hide (And.intro hb1 (And.intro hb2 (And.intro hnd (And.intro hbel hF1))));clear hb1 hb2 hnd hbel hF1))
  all_goals go_wp2
  all_goals go_end0
  all_goals exact⟨rfl,HFI.out _ _ _ (by first|exact drew_below _ _|exact (Below.refl _ _).drew|exact Below.refl _ _) HX.out⟩
structure FkAt (Hk:Nd→ByteArray→Prop)(ok:Nat→Prop)(w:World)(bk:Nat)(c:Nat→Nd)(x:ByteArray):Prop where
 held:∃us hs,Fork w bk us hs x∧∀i,i<16→NdAt Hk ok w (c i) (us i)∧(hs i=e0∨(c i≠.nil∧Hk (c i) (hs i)))
theorem FkAt.lt {Hk:Nd→ByteArray→Prop}{ok:Nat→Prop}{w:World}{bk:Nat}{c:Nat→Nd}{x:ByteArray}(h:FkAt Hk ok w bk c x):bk<w.heap.size:=by
 obtain⟨us,hs,hf,_⟩:=h
 exact hf.lt
theorem FkAt.node {Hk:Nd→ByteArray→Prop}{ok:Nat→Prop}{w:World}{bk:Nat}{c:Nat→Nd}{x:ByteArray}(h:FkAt Hk ok w bk c x):NdAt Hk (fun k=>ok k∨k=bk) w (.br c x) (.iface 252 (ptr bk)):=by
 obtain⟨us,hs,hf,hc⟩:=h
 exact⟨bk,us,hs,rfl,.inr rfl,hf.blk,fun i hi=>⟨NdAt.mono (fun k hk=>.inl hk) _ _ (hc i hi).1,(hc i hi).2⟩⟩
theorem FkAt.new (Hk:Nd→ByteArray→Prop)(w:World):FkAt Hk (fun _=>False) (w.alloc (.cells (brCells (fun _=>.nilIface) (fun _=>e0) e0) 285)) w.heap.size (fun _=>.nil) e0 :=
 ⟨_,_,⟨heap_alloc_new w _⟩,fun _ _=>⟨rfl,.inl rfl⟩⟩
theorem FkAt.keep {Hk:Nd→ByteArray→Prop}{ok:Nat→Prop}{w w' : World}{bk:Nat}{c:Nat→Nd}{x:ByteArray}(h:FkAt Hk ok w bk c x)(hb:Below w.heap.size w w'):FkAt Hk ok w' bk c x:=by
 obtain⟨us,hs,hf,hc⟩:=h
 exact⟨us,hs,⟨(hb.block _ hf.lt).trans hf.blk⟩,fun i hi=>⟨(hc i hi).1.keep hb,(hc i hi).2⟩⟩
theorem hang_any (Hk:Nd→ByteArray→Prop)(ok:Nat→Prop)(bk:Nat)(c:Nat→Nd)(x:ByteArray)(ao:Option Addr)(cap:Nat)(p:List Nat)(y:ByteArray)(w:World)(hf:FkAt Hk ok w bk c x)(hok:¬ok bk)(hp:Nums w ao p)(h16:∀i∈p,i<16)(hc:p.length≤cap)(hm:p.length≤900) :
  Calls Tryz.prog 215 #[ptr bk,.slice ao p.length cap,.string y] w fun e w' => e=.returned (.tuple #[])∧w.grownBy w' (some bk)∧∃c' x', (Nd.br c x).hang p y=.br c' x' ∧ FkAt Hk (fun k=>ok k∨w.heap.size≤k) w' bk c' x' := by
 have hbk:=hf.lt
 obtain⟨us,hs,hfk,hch⟩:=hf
 have old:∀w', w.grownBy w' (some bk)→∀n v,NdAt Hk ok w n v→NdAt Hk (fun k=>ok k∨w.heap.size≤k) w' n v:=fun w' hg n v h =>
  NdAt.mono (fun k hk=>.inl hk) _ _ (NdAt.keepIn (fun k hk hl=>hg.block k hl (fun e=>hok (by injection e with e;rw[←e];exact hk))) n v h)
 cases p with
 | nil =>
   refine (hang_nil bk us hs x ao cap y w hfk).mono ?_
   rintro e w' ⟨rfl,hg,hf'⟩
   exact⟨rfl,hg,c,y,rfl,us,hs,hf', fun i hi=>⟨old w' hg _ _ (hch i hi).1,(hch i hi).2⟩⟩
 | cons i p =>
   refine (hang_cons Hk bk us hs x ao cap i p y w hfk hp (h16 i (List.mem_cons_self ..)) hc (by simp at hm;omega)).mono ?_
   rintro e w' ⟨rfl,hg,b,hb,hf', hn⟩
   refine⟨rfl,hg,upd c i (.leaf p y),x,rfl,_,_,hf', fun j hj=>?_⟩
   unfold upd updV
   by_cases hji:j=i
   ·rw[if_pos hji,if_pos hji,if_pos hji]
    exact⟨NdAt.mono (fun k hk=>.inr hk) _ _ hn,.inl rfl⟩
   ·rw[if_neg hji,if_neg hji,if_neg hji]
    exact⟨old w' hg _ _ (hch j hj).1,(hch j hj).2⟩
theorem as_leaf_leaf (w:World)(v:Value):(Instr.typeAssert (.iface 153 v) 63 153 true).run Tryz.prog w=.ok (.tuple #[v,.bool true]) w:=by kernel_rfl
theorem as_ext_leaf (w:World)(v:Value):(Instr.typeAssert (.iface 250 v) 63 153 true).run Tryz.prog w=.ok (.tuple #[.pointer none,.bool false]) w:=by kernel_rfl
theorem as_br_leaf (w:World)(v:Value):(Instr.typeAssert (.iface 252 v) 63 153 true).run Tryz.prog w=.ok (.tuple #[.pointer none,.bool false]) w:=by kernel_rfl
theorem as_ext_ext (w:World)(v:Value):(Instr.typeAssert (.iface 250 v) 63 250 true).run Tryz.prog w=.ok (.tuple #[v,.bool true]) w:=by kernel_rfl
theorem as_br_ext (w:World)(v:Value):(Instr.typeAssert (.iface 252 v) 63 250 true).run Tryz.prog w=.ok (.tuple #[.pointer none,.bool false]) w:=by kernel_rfl
theorem ahead_leaf (Hk:Nd→ByteArray→Prop)(ao:Option Addr)(cap:Nat)(p q:List Nat)(x:ByteArray)(u:Value)(h:ByteArray)(ok:Nat→Prop)(v:Value)(w:World)(hp:Nums w ao p)(h0:ao=none→cap=0)(hc:p.length≤cap)(hl:p.length+q.length≤900)(hn:NdAt Hk ok w (.leaf q x) v) :
  Calls Tryz.prog 216 #[.slice ao p.length cap,.agg #[u,.string h],v] w fun e w' => ∃v', e=.returned v' ∧ NdAt Hk (fun k=>w.heap.size≤k) w' (.leaf (p++q) x) v' ∧ Below w.heap.size w w' := by
 obtain⟨b,bo,bc,rfl,_,_,hb,hq,hb0,hbc⟩:=hn
 have hbl:=(aGe.1 hb).1
 have hcell:∀W,Below w.heap.size w W→W.cell? ⟨b,0,none⟩=some (.slice bo q.length bc)∧W.cell? ⟨b,1,none⟩=some (.string x):=fun W hW =>
  ⟨(hW.cell (p:=⟨b,0,none⟩) hbl).trans (cell_of_row w b 0 _ _ (0,0) hb),(hW.cell (p:=⟨b,1,none⟩) hbl).trans (cell_of_row w b 1 _ _ (0,0) hb)⟩
 have HC:=hide hcell
 have HW2:Hid (Below w.heap.size w ((w.alloc (.cells #[u,.string h] 65)).alloc (.cells #[.slice ao p.length cap,.slice bo q.length bc] 80)).drew):=(below_alloc2 _ _ _).drew
 have HCC:Hid (Calls Tryz.prog 130 #[.slice (some ⟨w.heap.size+1,0,none⟩) 2 2] ((w.alloc (.cells #[u,.string h] 65)).alloc (.cells #[.slice ao p.length cap,.slice bo q.length bc] 80)).drew fun e w' => NewPath w.heap.size (p++q) w e w'):=by
  have hnew:=heap_alloc_new (w.alloc (.cells #[u,.string h] 65)) (.cells #[.slice ao p.length cap,.slice bo q.length bc] 80)
  rw[World.size_alloc] at hnew
  refine (concat2_any (w.heap.size+1) ao bo cap bc p q ((w.alloc (.cells #[u,.string h] 65)).alloc (.cells #[.slice ao p.length cap,.slice bo q.length bc] 80)).drew (cell_of_row _ _ 0 _ _ (0,0) hnew) (cell_of_row _ _ 1 _ _ (0,0) hnew) (hp.keep HW2.out (Nat.le_refl _)) (hq.keep HW2.out (Nat.le_refl _)) h0 hb0 hc hbc (by omega) (by omega)).mono ?_
  rintro e w' ⟨a1,k1,rfl,hi,hn,hz,hk,hbl2⟩
  have hs:=HW2.out.size
  exact⟨a1,k1,rfl,fun a e hne=>Nat.le_trans hs (hi a e hne),hn,hz,hk,HW2.out.trans (hbl2.mono hs)⟩
 have HNL:Hid (∀(a:Option Addr) (c:Nat) W,Nums W a (p++q)→(a=none→c=0)→(p++q).length≤c→Calls Tryz.prog 81 #[.slice a (p.length+q.length) c,.string x] W fun e w' => ∃b,e=.returned (ptr b)∧b+1=w'.heap.size∧W.heap.size≤b∧NdAt Hk (fun k=>W.heap.size≤k) w' (.leaf (p++q) x) (.iface 153 (ptr b))∧Below W.heap.size W w') :=
  fun a c W h1 h2 h3=>by
   have h:=newLeaf_any Hk a c (p++q) x W h1 h2 h3 (by rw[List.length_append];omega)
   rw[List.length_append] at h
   exact h
 have t1:=as_leaf_leaf
 obtain⟨c0,c1⟩:=hcell _ (below_alloc w (.cells #[u,.string h] 65))
 clear hp h0 hc hl hb hq hb0 hbc hcell
 unfold ptr at *
 go_enter Tryz.func216,Tryz.ntmps216
 go_wp2_with fail
 go_region_with ((first
  | (go_at_call 130;refine HCC.out.mono ?_;rintro e w1 ⟨a1,k1,rfl,hi1,hn1,hz1,hk1,hb1⟩;have d1:=(HC.out _ hb1).2;have HX1:=hide (And.intro hi1 (And.intro hn1 (And.intro hz1 (And.intro hk1 hb1))));clear hi1 hn1 hz1 hk1 hb1 HCC)
  | (go_at_call 81;refine (HNL.out _ _ _ HX1.out.2.1 HX1.out.2.2.1 HX1.out.2.2.2.1).mono ?_;rintro e w2 ⟨b2,rfl,hb2,hs2,hnd2,hbel2⟩;have HX2:=hide (And.intro hnd2 hbel2);clear hb2 hs2 hnd2 hbel2)))
 all_goals go_wp2
 all_goals go_ret
 all_goals exact⟨_,rfl,NdAt.mono (fun k hk=>Nat.le_trans HX1.out.2.2.2.2.size hk) _ _ HX2.out.1,HX1.out.2.2.2.2.trans (HX2.out.2.mono HX1.out.2.2.2.2.size)⟩
theorem ahead_ext (Hk:Nd→ByteArray→Prop)(ao:Option Addr)(cap:Nat)(p q:List Nat)(m:Nd)(u:Value)(h:ByteArray)(ok:Nat→Prop)(v:Value)(w:World)(hp:Nums w ao p)(h0:ao=none→cap=0)(hc:p.length≤cap)(hl:p.length+q.length≤900)(hn:NdAt Hk ok w (.ext q m) v) :
  Calls Tryz.prog 216 #[.slice ao p.length cap,.agg #[u,.string h],v] w fun e w' => ∃v', e=.returned v' ∧ NdAt Hk (fun k=>ok k∨w.heap.size≤k) w' (.ext (p++q) m) v' ∧ Below w.heap.size w w' := by
 obtain⟨b,bo,bc,mu,mh,rfl,_,_,hb,hq,hb0,hbc,hm,hmh⟩:=hn
 have hbl:=(aGe.1 hb).1
 have hcell:∀W,Below w.heap.size w W→W.cell? ⟨b,0,none⟩=some (.slice bo q.length bc)∧W.cell? ⟨b,1,none⟩=some mu∧W.cell? ⟨b,2,none⟩=some (.string mh):=fun W hW =>
  ⟨(hW.cell (p:=⟨b,0,none⟩) hbl).trans (cell_of_row w b 0 _ _ (0,0) hb),(hW.cell (p:=⟨b,1,none⟩) hbl).trans (cell_of_row w b 1 _ _ (0,0) hb),(hW.cell (p:=⟨b,2,none⟩) hbl).trans (cell_of_row w b 2 _ _ (0,0) hb)⟩
 have HC:=hide hcell
 have HW2:Hid (Below w.heap.size w ((w.alloc (.cells #[u,.string h] 65)).alloc (.cells #[.slice ao p.length cap,.slice bo q.length bc] 80)).drew):=(below_alloc2 _ _ _).drew
 have HCC:Hid (Calls Tryz.prog 130 #[.slice (some ⟨w.heap.size+1,0,none⟩) 2 2] ((w.alloc (.cells #[u,.string h] 65)).alloc (.cells #[.slice ao p.length cap,.slice bo q.length bc] 80)).drew fun e w' => NewPath w.heap.size (p++q) w e w'):=by
  have hnew:=heap_alloc_new (w.alloc (.cells #[u,.string h] 65)) (.cells #[.slice ao p.length cap,.slice bo q.length bc] 80)
  rw[World.size_alloc] at hnew
  refine (concat2_any (w.heap.size+1) ao bo cap bc p q ((w.alloc (.cells #[u,.string h] 65)).alloc (.cells #[.slice ao p.length cap,.slice bo q.length bc] 80)).drew (cell_of_row _ _ 0 _ _ (0,0) hnew) (cell_of_row _ _ 1 _ _ (0,0) hnew) (hp.keep HW2.out (Nat.le_refl _)) (hq.keep HW2.out (Nat.le_refl _)) h0 hb0 hc hbc (by omega) (by omega)).mono ?_
  rintro e w' ⟨a1,k1,rfl,hi,hn,hz,hk,hbl2⟩
  have hs:=HW2.out.size
  exact⟨a1,k1,rfl,fun a e hne=>Nat.le_trans hs (hi a e hne),hn,hz,hk,HW2.out.trans (hbl2.mono hs)⟩
 have HNM:=hide (And.intro hm hmh)
 have t1:=as_ext_leaf
 have t2:=as_ext_ext
 obtain⟨c0,c1,c2⟩:=hcell _ (below_alloc w (.cells #[u,.string h] 65))
 obtain⟨cx0,cx1,cx2⟩:=hcell w (Below.refl _ _)
 clear hp h0 hc hl hb hq hb0 hbc hcell hm hmh
 unfold ptr at *
 go_enter Tryz.func216,Tryz.ntmps216
 go_wp2_with fail
 go_region_with ((go_at_call 130;refine HCC.out.mono ?_;rintro e w1 ⟨a1,k1,rfl,hi1,hn1,hz1,hk1,hb1⟩;have d1:=(HC.out _ hb1).2.1;have d2:=(HC.out _ hb1).2.2;have HX1:=hide (And.intro hi1 (And.intro hn1 (And.intro hz1 (And.intro hk1 hb1))));clear hi1 hn1 hz1 hk1 hb1 HCC))
 all_goals go_wp2
 all_goals go_ret
 all_goals
  have hb1:=HX1.out.2.2.2.2
  have hbx:Below w.heap.size w (w1.alloc (.cells #[.slice a1 (p.length+q.length) k1,mu,.string mh] 282)):=hb1.alloc hb1.size _
  exact⟨_,rfl,⟨w1.heap.size,a1,k1,mu,mh,rfl,.inr hb1.size,fun a e hne=>.inr (HX1.out.1 a e hne),by rw[List.length_append];exact heap_alloc_new w1 _,HX1.out.2.1.keep (below_alloc w1 _) (Nat.le_refl _),HX1.out.2.2.1,HX1.out.2.2.2.1,NdAt.mono (fun k hk=>.inl hk) _ _ (HNM.out.1.keep hbx),HNM.out.2⟩,hbx⟩
theorem ahead_br0 (Hk:Nd→ByteArray→Prop)(ao:Option Addr)(cap:Nat)(c:Nat→Nd)(x:ByteArray)(u:Value)(h:ByteArray)(ok:Nat→Prop)(v:Value)(w:World)(hn:NdAt Hk ok w (.br c x) v) :
  Calls Tryz.prog 216 #[.slice ao 0 cap,.agg #[u,.string h],v] w fun e w' => ∃v', e=.returned v' ∧ NdAt Hk ok w' (.br c x) v' ∧ Below w.heap.size w w' := by
 have HN:=hide hn
 obtain⟨b,us,hs,rfl,_⟩:=hn
 have t1:=as_br_leaf
 have t2:=as_br_ext
 unfold ptr at *
 go_enter Tryz.func216,Tryz.ntmps216
 go_wp2
 go_ret
 exact⟨_,rfl,HN.out.keep (below_alloc _ _),below_alloc _ _⟩
theorem ahead_br (Hk:Nd→ByteArray→Prop)(ao:Option Addr)(cap:Nat)(p:List Nat)(c:Nat→Nd)(x:ByteArray)(h:ByteArray)(ok:Nat→Prop)(v:Value)(w:World)(hp:Nums w ao p)(h0:ao=none→cap=0)(hc:p.length≤cap)(hl:p.length≤900)(hne:p≠[])(hn:NdAt Hk ok w (.br c x) v)(hh:h=e0∨Hk (.br c x) h) :
  Calls Tryz.prog 216 #[.slice ao p.length cap,.agg #[v,.string h],v] w fun e w' => ∃v', e=.returned v' ∧ NdAt Hk (fun k=>ok k∨w.heap.size≤k) w' (.ext p (.br c x)) v' ∧ Below w.heap.size w w' := by
 have HN:=hide hn
 obtain⟨b,us,hs,rfl,_⟩:=hn
 have t1:=as_br_leaf
 have t2:=as_br_ext
 have HCL:Hid (Calls Tryz.prog 112 #[.slice ao p.length cap] (w.alloc (.cells #[.iface 252 (ptr b),.string h] 65)).drew fun e w1=>∃a1 k1,e=.returned (.slice a1 p.length k1)∧PathIn (fun k=>w.heap.size≤k) a1 p∧Nums w1 a1 p∧(a1=none→k1=0)∧p.length≤k1∧w1.cell? ⟨w.heap.size,0,none⟩=some (.iface 252 (ptr b))∧w1.cell? ⟨w.heap.size,1,none⟩=some (.string h)∧Below w.heap.size w w1):=by
  have hB0:Below w.heap.size w (w.alloc (.cells #[.iface 252 (ptr b),.string h] 65)).drew:=(below_alloc _ _).drew
  have hR0:=heap_alloc_new w (.cells #[.iface 252 (ptr b),.string h] 65)
  refine (cloneI_any ao cap p (w.alloc (.cells #[.iface 252 (ptr b),.string h] 65)).drew (hp.keep hB0 (Nat.le_refl _)) h0 hc (by omega)).mono ?_
  rintro e w1 ⟨a1,k1,rfl,hi1,hn1,hz1,hk1,hb1⟩
  have hs:=hB0.size
  have hblk:w1.heap[w.heap.size]? = some (.cells #[.iface 252 (ptr b),.string h] 65 (0,0)):=(hb1.block w.heap.size (by show _<(w.alloc _).heap.size;simp)).trans hR0
  exact⟨a1,k1,rfl,fun a e hne=>Nat.le_trans hs (hi1 a e hne),hn1,hz1,hk1,cell_of_row w1 _ 0 _ _ (0,0) hblk,cell_of_row w1 _ 1 _ _ (0,0) hblk,hB0.trans (hb1.mono hs)⟩
 have z0:(w.alloc (.cells #[.iface 252 (ptr b),.string h] 65)).cell? ⟨w.heap.size,0,none⟩=some (.iface 252 (ptr b)):=cell_of_row _ _ 0 _ _ (0,0) (heap_alloc_new w _)
 have z1:(w.alloc (.cells #[.iface 252 (ptr b),.string h] 65)).cell? ⟨w.heap.size,1,none⟩=some (.string h):=cell_of_row _ _ 1 _ _ (0,0) (heap_alloc_new w _)
 have hp1:(1:Int)≤(p.length:Int):=by have:=List.length_pos_iff.2 hne;omega
 have hp2:((p.length:Int) == 0)=false:=by simp;omega
 clear hp h0 hc hne
 unfold ptr at *
 go_enter Tryz.func216,Tryz.ntmps216
 go_wp2_with fail
 go_region_with ((go_at_call 112;refine HCL.out.mono ?_;rintro e w1 ⟨a1,k1,rfl,hi1,hn1,hz1,hk1,d0,d1,hb1⟩;have HX1:=hide (And.intro hi1 (And.intro hn1 (And.intro hz1 (And.intro hk1 hb1))));clear hi1 hn1 hz1 hk1 hb1))
 all_goals go_wp2
 all_goals go_ret
 all_goals
  have hb1:Below w.heap.size w w1:=HX1.out.2.2.2.2
  have hbx:Below w.heap.size w (w1.alloc (.cells #[.slice a1 p.length k1,.iface 252 (.pointer (some ⟨b,0,none⟩)),.string h] 282)):=hb1.alloc hb1.size _
  exact⟨_,rfl,⟨w1.heap.size,a1,k1,_,h,rfl,.inr hb1.size,fun a e hne=>.inr (HX1.out.1 a e hne),heap_alloc_new w1 _,HX1.out.2.1.keep (below_alloc w1 _) (Nat.le_refl _),HX1.out.2.2.1,HX1.out.2.2.2.1,NdAt.mono (fun k hk=>.inl hk) _ _ (HN.out.keep hbx),hh⟩,hbx⟩
theorem nums_form {w:World}{ao:Option Addr}{q:List Nat}{cap:Nat}(h:Nums w ao q)(h0:ao=none→cap=0)(hc:q.length≤cap):(ao=none∧q=[]∧cap=0)∨∃b off,ao=some ⟨b,off,none⟩:=by
 cases ao with
 | none=>exact .inl ⟨rfl,List.length_eq_zero_iff.1 (by have:=h0 rfl;omega),h0 rfl⟩
 | some a =>
   obtain⟨b,off,sp⟩:=a
   obtain rfl:sp=none:=h.spot _ rfl
   exact .inr ⟨b,off,rfl⟩
def Nd.plen:Nd→Nat
 | .leaf q _=>q.length
 | .ext q _=>q.length
 | _=>0
theorem ahead_any (Hk:Nd→ByteArray→Prop)(ao:Option Addr)(cap:Nat)(p:List Nat)(n:Nd)(h:ByteArray)(ok:Nat→Prop)(v:Value)(w:World)(hp:Nums w ao p)(h0:ao=none→cap=0)(hc:p.length≤cap)(hl:p.length+n.plen≤900)(hne:n≠.nil)(hn:NdAt Hk ok w n v)(hh:h=e0∨Hk n h) :
  Calls Tryz.prog 216 #[.slice ao p.length cap,.agg #[v,.string h],v] w fun e w' => ∃v', e=.returned v' ∧ NdAt Hk (fun k=>ok k∨w.heap.size≤k) w' (n.ahead p) v' ∧ Below w.heap.size w w' := by
 cases n with
 | nil=>exact absurd rfl hne
 | leaf q x =>
   refine (ahead_leaf Hk ao cap p q x v h ok v w hp h0 hc hl hn).mono ?_
   rintro e w' ⟨v', rfl,h1,h2⟩
   exact⟨v', rfl,NdAt.mono (fun k hk=>.inr hk) _ _ h1,h2⟩
 | ext q m=>exact ahead_ext Hk ao cap p q m v h ok v w hp h0 hc hl hn
 | br c x =>
   by_cases hp0:p=[]
   ·subst hp0
    refine (ahead_br0 Hk ao cap c x v h ok v w hn).mono ?_
    rintro e w' ⟨v', rfl,h1,h2⟩
    exact⟨v', rfl,by simpa[Nd.ahead] using NdAt.mono (fun k hk=>.inl hk) _ _ h1,h2⟩
   ·have e:(Nd.br c x).ahead p=.ext p (.br c x):=by simp[Nd.ahead,hp0]
    rw[e]
    exact ahead_br Hk ao cap p c x h ok v w hp h0 hc (by simp[Nd.plen] at hl;exact hl) hp0 hn hh
def PutPost (Hk:Nd→ByteArray→Prop)(ok:Nat→Prop)(n:Nd)(w:World)(e:Ending)(w' : World):Prop:=∃v', e=.returned (.tuple #[v', .int .i64 0])∧NdAt Hk (fun k=>ok k∨w.heap.size≤k) w' n v' ∧ Below w.heap.size w w'
theorem leafPut_same (Hk:Nd→ByteArray→Prop)(ok:Nat→Prop)(b:Nat)(st:Value)(dp:Int)(ao:Option Addr)(cap:Nat)(p:List Nat)(x y:ByteArray)(w:World)(hn:NdAt Hk ok w (.leaf p x) (.iface 153 (ptr b)))(hp:Nums w ao p)(h0:ao=none→cap=0)(hc:p.length≤cap)(hm:p.length≤900) :
  Calls Tryz.prog 207 #[ptr b,st,.int .i64 dp,.slice ao p.length cap,.string y] w fun e w' => PutPost Hk ok ((Nd.leaf p x).put p y) w e w' := by
 have HP:Hid ((Nd.leaf p x).put p y=.leaf p y):=by show _=_;simp[Nd.put]
 obtain⟨b', bo,bc,hb', _,_,hb,hq,hb0,hbc⟩:=hn
 obtain rfl:b=b' := by simpa[ptr] using hb'
 have c0:w.cell? ⟨b,0,none⟩=some (.slice bo p.length bc):=cell_of_row w b 0 _ _ (0,0) hb
 have HE:=hide (equalI_any bo ao bc cap p p w hq hp (by omega))
 rw[decide_eq_true rfl] at HE
 have HN:Hid (∀W,Below w.heap.size w W→Calls Tryz.prog 81 #[.slice ao p.length cap,.string y] W fun e w' => ∃b,e=.returned (ptr b)∧b+1=w'.heap.size∧W.heap.size≤b∧NdAt Hk (fun k=>W.heap.size≤k) w' (.leaf p y) (.iface 153 (ptr b))∧Below W.heap.size W w') :=
  fun W hW=>newLeaf_any Hk ao cap p y W (hp.keep hW (Nat.le_refl _)) h0 hc (by omega)
 clear hb hq hb0 hbc hp h0 hc hm
 unfold ptr at *
 go_enter Tryz.func207,Tryz.ntmps207
 go_wp2_with fail
 refine HE.out.mono ?_
 rintro e w1 ⟨rfl,hb1⟩
 have HB1:=hide hb1
 clear hb1
 go_wp2_with fail
 refine (HN.out w1 HB1.out).mono ?_
 rintro e w2 ⟨b2,rfl,_,_,hn2,hb2⟩
 have HX:=hide (And.intro hn2 hb2)
 clear hn2 hb2
 go_wp2
 go_ret2
 exact⟨_,rfl,by rw[HP.out];exact NdAt.mono (fun k hk=>.inr (Nat.le_trans HB1.out.size hk)) _ _ HX.out.1,HB1.out.trans (HX.out.2.mono HB1.out.size)⟩
theorem leafPut_fork (Hk:Nd→ByteArray→Prop)(ok:Nat→Prop)(b:Nat)(st:Value)(dp:Int)(gp op cap:Nat)(p q:List Nat)(x y:ByteArray)(w:World)(hn:NdAt Hk ok w (.leaf q x) (.iface 153 (ptr b)))(hp:Nums w (some ⟨gp,op,none⟩) p)(hc:p.length≤cap)(hm:p.length≤400)(hqm:q.length≤400)(hne:q≠p)(hp16:∀i∈p,i<16)(hq16:∀i∈q,i<16) :
  Calls Tryz.prog 207 #[ptr b,st,.int .i64 dp,.slice (some ⟨gp,op,none⟩) p.length cap,.string y] w fun e w' => PutPost Hk ok ((Nd.leaf q x).put p y) w e w' := by
 obtain⟨b', bo,bc,hb', _,_,hb,hq,hb0,hbc⟩:=hn
 obtain rfl:b=b' := by simpa[ptr] using hb'
 have hbl:=(aGe.1 hb).1
 have hcell:∀W,Below w.heap.size w W→W.cell? ⟨b,0,none⟩=some (.slice bo q.length bc)∧W.cell? ⟨b,1,none⟩=some (.string x):=fun W hW =>
  ⟨(hW.cell (p:=⟨b,0,none⟩) hbl).trans (cell_of_row w b 0 _ _ (0,0) hb),(hW.cell (p:=⟨b,1,none⟩) hbl).trans (cell_of_row w b 1 _ _ (0,0) hb)⟩
 have HC:=hide hcell
 obtain⟨c0,c1⟩:=hcell w (Below.refl _ _)
 have HE:=hide (equalI_any bo (some ⟨gp,op,none⟩) bc cap q p w hq hp (by omega))
 rw[decide_eq_false hne] at HE
 have HS:Hid (∀W,Below w.heap.size w W→Calls Tryz.prog 214 #[.slice bo q.length bc,.slice (some ⟨gp,op,none⟩) p.length cap] W fun e w' => e=.returned (.int .i64 (shared q p:Int))∧Below W.heap.size W w') :=
  fun W hW=>sharedI_any bo (some ⟨gp,op,none⟩) bc cap q p W (hq.keep hW (Nat.le_refl _)) (hp.keep hW (Nat.le_refl _)) (by omega)
 have hsl:=shared_le_left q p
 have hsr:=shared_le_right q p
 have hput:(Nd.leaf q x).put p y=((emptyBr.hang (q.drop (shared q p)) x).hang (p.drop (shared q p)) y).ahead (p.take (shared q p)):=by simp[Nd.put,hne]
 have HPT:=hide hput
 have HQ:=hide hq
 have HP:=hide hp
 obtain⟨n,hn⟩:∃n,Hid (shared q p=n):=⟨_,Eq.refl _⟩
 rw[hn.out] at HS hsl hsr HPT
 have nI:(n:Int)≤(q.length:Int):=by omega
 have nJ:(n:Int)≤(p.length:Int):=by omega
 have n0:(0:Int)≤(n:Int):=by omega
 have qI2:(q.length:Int)≤(bc:Int):=by omega
 have pI2:(p.length:Int)≤(cap:Int):=by omega
 have pI3:(p.length:Int)≤400:=by omega
 have qI3:(q.length:Int)≤400:=by omega
 clear hput hq hp hcell
 unfold ptr at *
 go_enter Tryz.func207,Tryz.ntmps207
 go_wp2_with fail
 refine HE.out.mono ?_
 rintro e w1 ⟨rfl,hb1⟩
 have HB1:=hide hb1
 obtain⟨d0,d1⟩:=HC.out w1 hb1
 clear hb1
 go_wp2_with fail
 refine (HS.out w1 HB1.out).mono ?_
 rintro e w2 ⟨rfl,hb2⟩
 have HB2:Hid (Below w.heap.size w w2):=HB1.out.trans (hb2.mono HB1.out.size)
 clear hb2 d0 d1 c0 c1
 go_wp2_with fail
 have HF3:Hid (FkAt Hk (fun _=>False) (w2.alloc (.cells #[.nilIface,.string ⟨#[]⟩,.nilIface,.string ⟨#[]⟩,.nilIface,.string ⟨#[]⟩,.nilIface,.string ⟨#[]⟩,.nilIface,.string ⟨#[]⟩,.nilIface,.string ⟨#[]⟩,.nilIface,.string ⟨#[]⟩,.nilIface,.string ⟨#[]⟩,.nilIface,.string ⟨#[]⟩,.nilIface,.string ⟨#[]⟩,.nilIface,.string ⟨#[]⟩,.nilIface,.string ⟨#[]⟩,.nilIface,.string ⟨#[]⟩,.nilIface,.string ⟨#[]⟩,.nilIface,.string ⟨#[]⟩,.nilIface,.string ⟨#[]⟩,.string ⟨#[]⟩] 285)) w2.heap.size (fun _=>.nil) e0):=FkAt.new Hk w2
 have HB3:Hid (Below w.heap.size w (w2.alloc (.cells #[.nilIface,.string ⟨#[]⟩,.nilIface,.string ⟨#[]⟩,.nilIface,.string ⟨#[]⟩,.nilIface,.string ⟨#[]⟩,.nilIface,.string ⟨#[]⟩,.nilIface,.string ⟨#[]⟩,.nilIface,.string ⟨#[]⟩,.nilIface,.string ⟨#[]⟩,.nilIface,.string ⟨#[]⟩,.nilIface,.string ⟨#[]⟩,.nilIface,.string ⟨#[]⟩,.nilIface,.string ⟨#[]⟩,.nilIface,.string ⟨#[]⟩,.nilIface,.string ⟨#[]⟩,.nilIface,.string ⟨#[]⟩,.nilIface,.string ⟨#[]⟩,.string ⟨#[]⟩] 285))):=HB2.out.alloc HB2.out.size _
 have hbk:w.heap.size≤w2.heap.size:=HB2.out.size
 have HBK:=hide hbk
 clear hbk HB1 HB2 HS HE
 generalize World.alloc w2 _=W3 at *
 generalize w2.heap.size=bk at *
 obtain⟨f0,f1⟩:=HC.out W3 HB3.out
 have HH1:Hid (∀a l c,l=q.length - n→Nums W3 a (q.drop n)→l≤c→Calls Tryz.prog 215 #[.pointer (some ⟨bk,0,none⟩),.slice a l c,.string x] W3.drew fun e w4=>e=.returned (.tuple #[])∧W3.heap.size≤w4.heap.size∧Below w.heap.size w w4∧∃c4 x4,emptyBr.hang (q.drop n) x=.br c4 x4∧FkAt Hk (fun k=>W3.heap.size≤k) w4 bk c4 x4):=by
  intro a l c hl ha hc2
  subst hl
  have h:=hang_any Hk (fun _=>False) bk (fun _=>.nil) e0 a c (q.drop n) x W3.drew (HF3.out.keep (Below.refl _ _).drew) (fun h=>h) (ha.keep (Below.refl _ _).drew (Nat.le_refl _)) (fun i hi=>hq16 i (List.mem_of_mem_drop hi)) (by rw[List.length_drop];exact hc2) (by rw[List.length_drop];omega)
  rw[List.length_drop] at h
  refine h.mono ?_
  rintro e w4 ⟨rfl,hg,c4,x4,he,hf⟩
  obtain⟨us,hs,hf1,hf2⟩:=hf
  exact⟨rfl,hg.size,HB3.out.drew.grown hg HB3.out.size (fun k e=>by injection e with e;rw[←e];exact HBK.out),c4,x4,he,us,hs,hf1,fun i hi=>⟨NdAt.mono (fun k hk=>hk.elim (fun h=>h.elim) id) _ _ (hf2 i hi).1,(hf2 i hi).2⟩⟩
 have HAh:Hid (∀w4 w5,W3.heap.size≤w4.heap.size→Below w.heap.size w w4→Below w.heap.size w w5→∀c4 x4 c5 x5,emptyBr.hang (q.drop n) x=.br c4 x4→(Nd.br c4 x4).hang (p.drop n) y=.br c5 x5→FkAt Hk (fun k=>W3.heap.size≤k∨w4.heap.size≤k) w5 bk c5 x5→Calls Tryz.prog 216 #[.slice (some ⟨gp,op,none⟩) n cap,.agg #[.iface 252 (.pointer (some ⟨bk,0,none⟩)),.string e0],.iface 252 (.pointer (some ⟨bk,0,none⟩))] w5 fun e w6=>∃v6,e=.returned v6∧NdAt Hk (fun k=>ok k∨w.heap.size≤k) w6 ((Nd.leaf q x).put p y) v6∧Below w.heap.size w w6):=by
  intro w4 w5 _ hb4 hb5 c4 x4 c5 x5 he4 he5 hf5
  have htl:(p.take n).length=n:=by rw[List.length_take];omega
  have h:=ahead_any Hk (some ⟨gp,op,none⟩) cap (p.take n) (.br c5 x5) e0 _ _ w5 ((HP.out.keep hb5 (Nat.le_refl _)).take n) (fun h=>by cases h) (by omega) (by simp only[Nd.plen];omega) (by simp) hf5.node (.inl rfl)
  rw[htl] at h
  refine h.mono ?_
  rintro e w6 ⟨v6,rfl,hn6,hb6⟩
  refine⟨v6,rfl,?_,hb5.trans (hb6.mono hb5.size)⟩
  rw[HPT.out,he4,he5]
  have hs3:=HB3.out.size
  have hs4:=hb4.size
  have hs5:=hb5.size
  have hsb:=HBK.out
  refine NdAt.mono (fun k hk=>.inr ?_) _ _ hn6
  rcases hk with ((hk|hk)|hk)|hk<;>omega
 have HH2:Hid (∀a l c,l=p.length - n→(∀w4,Below w.heap.size w w4→Nums w4 a (p.drop n))→l≤c→∀w4 c4 x4,W3.heap.size≤w4.heap.size→Below w.heap.size w w4→FkAt Hk (fun k=>W3.heap.size≤k) w4 bk c4 x4→Calls Tryz.prog 215 #[.pointer (some ⟨bk,0,none⟩),.slice a l c,.string y] w4 fun e w5=>e=.returned (.tuple #[])∧Below w.heap.size w w5∧∃c5 x5,(Nd.br c4 x4).hang (p.drop n) y=.br c5 x5∧FkAt Hk (fun k=>W3.heap.size≤k∨w4.heap.size≤k) w5 bk c5 x5):=by
  intro a l c hl ha hc2 w4 c4 x4 hs4 hb4 hf4
  subst hl
  have hbl3:=HF3.out.lt
  have h:=hang_any Hk (fun k=>W3.heap.size≤k) bk c4 x4 a c (p.drop n) y w4 hf4 (by omega) (ha w4 hb4) (fun i hi=>hp16 i (List.mem_of_mem_drop hi)) (by rw[List.length_drop];exact hc2) (by rw[List.length_drop];omega)
  rw[List.length_drop] at h
  refine h.mono ?_
  rintro e w5 ⟨rfl,hg,c5,x5,he,hf⟩
  exact⟨rfl,hb4.grown hg hb4.size (fun k e=>by injection e with e;rw[←e];exact HBK.out),c5,x5,he,hf⟩
 rcases nums_form HQ.out hb0 hbc with⟨r1,r2,r3⟩|⟨gb,off,r1⟩
 ·subst r1;subst r2;subst r3
  obtain rfl:n=0:=by simpa using hsl
  have HH1' := hide (HH1.out none 0 0 (by simp) (Nums.nil (fun a e=>by cases e)) (by simp))
  have hpl:0 < p.length:=List.length_pos_iff.2 (fun e=>hne e.symm)
  have HH2' := hide (HH2.out (some ⟨gp,op,none⟩) p.length cap (by simp) (fun w4 h4=>by rw[List.drop_zero];exact HP.out.keep h4 (Nat.le_refl _)) (by omega))
  have pcI:(0:Int)<(cap:Int):=by omega
  have pcJ:¬cap=0:=by omega
  clear HH1 HH2 HC HQ hsl hsr
  go_region_with ((go_at_call 215;refine HH1'.out.mono ?_;rintro e w4 ⟨rfl,hs4,hb4,c4,x4,he4,hf4⟩;have HX4:=hide (And.intro hs4 (And.intro hb4 (And.intro he4 hf4)));clear hs4 hb4 he4 hf4))
  all_goals
   go_wp2_with fail
   refine (HH2'.out w4 c4 x4 HX4.out.1 HX4.out.2.1 HX4.out.2.2.2).mono ?_
   rintro e w5 ⟨rfl,hb5,c5,x5,he5,hf5⟩
   have HAH:=hide (HAh.out w4 w5 HX4.out.1 HX4.out.2.1 hb5 c4 x4 c5 x5 HX4.out.2.2.1 he5 hf5)
   clear hb5 he5 hf5
   go_wp2_with fail
   refine HAH.out.mono ?_
   rintro e w6 ⟨v6,rfl,hn6,hb6⟩
   have HX6:=hide (And.intro hn6 hb6)
   clear hn6 hb6
   go_wp2
   go_ret2
   exact⟨_,rfl,HX6.out.1,HX6.out.2⟩
 ·subst r1
  by_cases hqc:bc=n
  ·obtain rfl:n=q.length:=by omega
   subst hqc
   have HH1' := hide (HH1.out (some ⟨gb,off,none⟩) 0 0 (by omega) (by rw[List.drop_length];exact Nums.nil (fun a e=>by injection e with e;rw[←e])) (by omega))
   have hpc:¬cap=q.length:=fun e=>hne (by
    have h1:=shared_take q p
    rw[hn.out,List.take_length,List.take_of_length_le (by omega)] at h1
    exact h1)
   have HH2' := hide (HH2.out (some ⟨gp,op+q.length,none⟩) (p.length - q.length) (cap - q.length) rfl (fun w4 h4=>(HP.out.keep h4 (Nat.le_refl _)).drop q.length) (by omega))
   have pcI:(q.length:Int)<(cap:Int):=by omega
   clear HH1 HH2 HC HQ hsl hsr
   go_region_with ((go_at_call 215;refine HH1'.out.mono ?_;rintro e w4 ⟨rfl,hs4,hb4,c4,x4,he4,hf4⟩;have HX4:=hide (And.intro hs4 (And.intro hb4 (And.intro he4 hf4)));clear hs4 hb4 he4 hf4))
   all_goals
    go_wp2_with fail
    refine (HH2'.out w4 c4 x4 HX4.out.1 HX4.out.2.1 HX4.out.2.2.2).mono ?_
    rintro e w5 ⟨rfl,hb5,c5,x5,he5,hf5⟩
    have HAH:=hide (HAh.out w4 w5 HX4.out.1 HX4.out.2.1 hb5 c4 x4 c5 x5 HX4.out.2.2.1 he5 hf5)
    clear hb5 he5 hf5
    go_wp2_with fail
    refine HAH.out.mono ?_
    rintro e w6 ⟨v6,rfl,hn6,hb6⟩
    have HX6:=hide (And.intro hn6 hb6)
    clear hn6 hb6
    go_wp2
    go_ret2
    exact⟨_,rfl,HX6.out.1,HX6.out.2⟩
  ·have HH1' := hide (HH1.out (some ⟨gb,off+n,none⟩) (q.length - n) (bc - n) rfl ((HQ.out.keep HB3.out (Nat.le_refl _)).drop n) (by omega))
   have qcI:(n:Int)<(bc:Int):=by omega
   by_cases hpc:cap=n
   ·obtain rfl:n=p.length:=by omega
    subst hpc
    have HH2' := hide (HH2.out (some ⟨gp,op,none⟩) 0 0 (by omega) (fun w4 _=>by rw[List.drop_length];exact Nums.nil (fun a e=>by injection e with e;rw[←e])) (by omega))
    clear HH1 HH2 HC HQ hsl hsr
    go_region_with ((go_at_call 215;refine HH1'.out.mono ?_;rintro e w4 ⟨rfl,hs4,hb4,c4,x4,he4,hf4⟩;have HX4:=hide (And.intro hs4 (And.intro hb4 (And.intro he4 hf4)));clear hs4 hb4 he4 hf4))
    all_goals
     go_wp2_with fail
     refine (HH2'.out w4 c4 x4 HX4.out.1 HX4.out.2.1 HX4.out.2.2.2).mono ?_
     rintro e w5 ⟨rfl,hb5,c5,x5,he5,hf5⟩
     have HAH:=hide (HAh.out w4 w5 HX4.out.1 HX4.out.2.1 hb5 c4 x4 c5 x5 HX4.out.2.2.1 he5 hf5)
     clear hb5 he5 hf5
     go_wp2_with fail
     refine HAH.out.mono ?_
     rintro e w6 ⟨v6,rfl,hn6,hb6⟩
     have HX6:=hide (And.intro hn6 hb6)
     clear hn6 hb6
     go_wp2
     go_ret2
     exact⟨_,rfl,HX6.out.1,HX6.out.2⟩
   ·have HH2' := hide (HH2.out (some ⟨gp,op+n,none⟩) (p.length - n) (cap - n) rfl (fun w4 h4=>(HP.out.keep h4 (Nat.le_refl _)).drop n) (by omega))
    have pcI:(n:Int)<(cap:Int):=by omega
    clear HH1 HH2 HC HQ hsl hsr
    go_region_with ((go_at_call 215;refine HH1'.out.mono ?_;rintro e w4 ⟨rfl,hs4,hb4,c4,x4,he4,hf4⟩;have HX4:=hide (And.intro hs4 (And.intro hb4 (And.intro he4 hf4)));clear hs4 hb4 he4 hf4))
    all_goals
     go_wp2_with fail
     refine (HH2'.out w4 c4 x4 HX4.out.1 HX4.out.2.1 HX4.out.2.2.2).mono ?_
     rintro e w5 ⟨rfl,hb5,c5,x5,he5,hf5⟩
     have HAH:=hide (HAh.out w4 w5 HX4.out.1 HX4.out.2.1 hb5 c4 x4 c5 x5 HX4.out.2.2.1 he5 hf5)
     clear hb5 he5 hf5
     go_wp2_with fail
     refine HAH.out.mono ?_
     rintro e w6 ⟨v6,rfl,hn6,hb6⟩
     have HX6:=hide (And.intro hn6 hb6)
     clear hn6 hb6
     go_wp2
     go_ret2
     exact⟨_,rfl,HX6.out.1,HX6.out.2⟩
theorem leafPut_any (Hk:Nd→ByteArray→Prop)(ok:Nat→Prop)(b:Nat)(st:Value)(dp:Int)(gp op cap:Nat)(p q:List Nat)(x y:ByteArray)(w:World)(hn:NdAt Hk ok w (.leaf q x) (.iface 153 (ptr b)))(hp:Nums w (some ⟨gp,op,none⟩) p)(hc:p.length≤cap)(hm:p.length≤400)(hqm:q.length≤400)(hp16:∀i∈p,i<16)(hq16:∀i∈q,i<16) :
  Calls Tryz.prog 207 #[ptr b,st,.int .i64 dp,.slice (some ⟨gp,op,none⟩) p.length cap,.string y] w fun e w' => PutPost Hk ok ((Nd.leaf q x).put p y) w e w' := by
 by_cases h:q=p
 ·subst h
  exact leafPut_same Hk ok b st dp _ cap q x y w hn hp (fun h=>by cases h) hc (by omega)
 ·exact leafPut_fork Hk ok b st dp gp op cap p q x y w hn hp hc hm hqm h hp16 hq16
theorem read_any (st:Value)(t:TypeId)(b:Nat)(h:ByteArray)(ab:Value)(dp:Int)(w:World) :
  Calls Tryz.prog 78 #[st,.agg #[.iface t (ptr b),.string h,ab,.int .i64 dp]] w fun e w' => e=.returned (.tuple #[.iface t (ptr b),.int .i64 0])∧Below w.heap.size w w' := by
 unfold ptr
 go_enter Tryz.func78,Tryz.ntmps78
 go_wp2
 go_ret2
 exact⟨rfl,below_alloc _ _⟩
def RefPost (Hk:Nd→ByteArray→Prop)(ok:Nat→Prop)(n:Nd)(w:World)(e:Ending)(w' : World):Prop:=∃v', e=.returned (.tuple #[.agg #[v', .string e0],.int .i64 0])∧NdAt Hk (fun k=>ok k∨w.heap.size≤k) w' n v' ∧ Below w.heap.size w w'
theorem two_set {w:World}{R:Nat}{T:TypeId}{a b:Value}(h:w.heap[R]? = some (.cells #[a,b] T (0,0)))(v u:Value):((w.setCell ⟨R,0,none⟩ v).setCell ⟨R,1,none⟩ u).heap[R]? = some (.cells #[v,u] T (0,0)):=by
 have h1:=heap_setCell_same w R 0 _ T v h
 have h2:=heap_setCell_same _ R 1 _ T u h1
 exact h2
theorem two_other {w:World}{R k:Nat}(h:k≠R)(v u:Value):((w.setCell ⟨R,0,none⟩ v).setCell ⟨R,1,none⟩ u).heap[k]? = w.heap[k]?:=by
 rw[Below.heap_setCell _ _ _ _ h,Below.heap_setCell _ _ _ _ h]
theorem below_two {B:Nat}{a w:World}(h:Below B a w){R:Nat}(hR:B≤R)(v u:Value):Below B a ((w.setCell ⟨R,0,none⟩ v).setCell ⟨R,1,none⟩ u):=(h.setCell (p:=⟨R,0,none⟩) hR v).setCell (p:=⟨R,1,none⟩) hR u
structure Boxes (w W:World)(x0 x1 x2 x3 y0 y1:Value):Prop where
 bel:Below w.heap.size w W
 size:w.heap.size+2≤W.heap.size
 spot:W.heap[w.heap.size]? = some (.cells #[x0,x1,x2,x3] 110 (0,0))
 res:W.heap[w.heap.size+1]? = some (.cells #[y0,y1] 65 (0,0))
theorem Boxes.new (w:World)(x0 x1 x2 x3 y0 y1:Value):Boxes w ((w.alloc (.cells #[x0,x1,x2,x3] 110)).alloc (.cells #[y0,y1] 65)) x0 x1 x2 x3 y0 y1 where
 bel:=below_alloc2 _ _ _
 size:=by simp
 spot:=by rw[Below.heap_alloc _ _ _ (by simp)];exact heap_alloc_new w _
 res:=by have:=heap_alloc_new (w.alloc (.cells #[x0,x1,x2,x3] 110)) (.cells #[y0,y1] 65);rwa [World.size_alloc] at this
theorem Boxes.keep {w W W' : World}{x0 x1 x2 x3 y0 y1:Value}(h:Boxes w W x0 x1 x2 x3 y0 y1)(hb:Below W.heap.size W W'):Boxes w W' x0 x1 x2 x3 y0 y1 where
 bel:=h.bel.trans (hb.mono h.bel.size)
 size:=Nat.le_trans h.size hb.size
 spot:=(hb.block _ (by have:=h.size;omega)).trans h.spot
 res:=(hb.block _ (by have:=h.size;omega)).trans h.res
theorem Boxes.cells {w W:World}{x0 x1 x2 x3 y0 y1:Value}(h:Boxes w W x0 x1 x2 x3 y0 y1):W.cell? ⟨w.heap.size,0,none⟩=some x0∧W.cell? ⟨w.heap.size,1,none⟩=some x1∧W.cell? ⟨w.heap.size,2,none⟩=some x2∧W.cell? ⟨w.heap.size,3,none⟩=some x3 :=
 ⟨cell_of_row W _ 0 _ _ (0,0) h.spot,cell_of_row W _ 1 _ _ (0,0) h.spot,cell_of_row W _ 2 _ _ (0,0) h.spot,cell_of_row W _ 3 _ _ (0,0) h.spot⟩
theorem Boxes.out {w W:World}{x0 x1 x2 x3 y0 y1:Value}(h:Boxes w W x0 x1 x2 x3 y0 y1):W.cell? ⟨w.heap.size+1,0,none⟩=some y0∧W.cell? ⟨w.heap.size+1,1,none⟩=some y1∧W.frozen? ⟨w.heap.size+1,0,none⟩=false∧W.frozen? ⟨w.heap.size+1,1,none⟩=false :=
 ⟨cell_of_row W _ 0 _ _ (0,0) h.res,cell_of_row W _ 1 _ _ (0,0) h.res,frozen_of_row W _ 0 _ _ h.res,frozen_of_row W _ 1 _ _ h.res⟩
theorem sPut_nil (Hk:Nd→ByteArray→Prop)(ok:Nat→Prop)(st ab:Value)(dp:Int)(gp op cap:Nat)(p:List Nat)(y:ByteArray)(w:World)(hp:Nums w (some ⟨gp,op,none⟩) p)(hc:p.length≤cap)(hm:p.length≤400) :
  Calls Tryz.prog 45 #[st,.agg #[.nilIface,.string e0,ab,.int .i64 dp],.slice (some ⟨gp,op,none⟩) p.length cap,.string y] w fun e w' => RefPost Hk ok (Nd.nil.put p y) w e w' := by
 have HP:Hid (Nd.nil.put p y=.leaf p y):=by show _=_;simp[Nd.put]
 have HN:Hid (∀W,Below w.heap.size w W→Calls Tryz.prog 81 #[.slice (some ⟨gp,op,none⟩) p.length cap,.string y] W fun e w' => ∃b,e=.returned (ptr b)∧b+1=w'.heap.size∧W.heap.size≤b∧NdAt Hk (fun k=>W.heap.size≤k) w' (.leaf p y) (.iface 153 (ptr b))∧Below W.heap.size W w') :=
  fun W hW=>newLeaf_any Hk (some ⟨gp,op,none⟩) cap p y W (hp.keep hW (Nat.le_refl _)) (fun h=>by cases h) hc (by omega)
 have HBX:=hide (Boxes.new w .nilIface (.string e0) ab (.int .i64 dp) .nilIface (.string ⟨#[]⟩))
 clear hp hc hm
 unfold ptr at *
 go_enter Tryz.func45,Tryz.ntmps45
 go_wp2_with fail
 generalize World.alloc (World.alloc w _) _=W2 at *
 refine (isEmpty_yes w.heap.size 0 W2 HBX.out.cells.1 HBX.out.cells.2.1).mono ?_
 rintro e w2 ⟨rfl,rfl⟩
 go_wp2_with fail
 refine (HN.out _ HBX.out.bel).mono ?_
 rintro e w3 ⟨b,rfl,_,hsz3,hn3,hb3⟩
 have HB3:=hide (HBX.out.keep hb3)
 obtain⟨q0,q1,q2,q3⟩:=HB3.out.out
 have HX:=hide hn3
 have HSz:=hide (Nat.le_trans HBX.out.size hsz3)
 clear hn3 hb3 hsz3
 go_wp2
 have hfin:=two_set HB3.out.res (.iface 153 (.pointer (some ⟨b,0,none⟩))) (.string e0)
 have r0:=cell_of_row _ _ 0 _ _ (0,0) hfin
 have r1:=cell_of_row _ _ 1 _ _ (0,0) hfin
 refine bodyPost_ret (v:=.tuple #[.agg #[.iface 153 (.pointer (some ⟨b,0,none⟩)),.string e0],.int .i64 0]) (by simp[results,Tryz.results45,go_sem,r0,r1]) rfl ?_
 refine⟨_,rfl,?_,below_two HB3.out.bel (by omega) _ _⟩
 rw[HP.out]
 have hs:=HBX.out.size
 exact NdAt.mono (fun k hk=>.inr (by have:_≤k:=hk;omega)) _ _ (NdAt.keepIn (fun k hk _=>two_other (by have:_≤k:=hk;omega) _ _) _ _ HX.out)
theorem meth_put_leaf (b : Nat) (w : World) : (method 438 153 (ptr b) "canopy/tree.put").run Tryz.prog w = .ok (207, ptr b) w := by kernel_rfl
theorem sPut_leaf (Hk:Nd→ByteArray→Prop)(ok:Nat→Prop)(n:Nd)(b:Nat)(h:ByteArray)(st ab:Value)(dp:Int)(gp op cap:Nat)(p:List Nat)(y:ByteArray)(w:World)(hok:∀k,ok k→k<w.heap.size)(hn:NdAt Hk ok w n (.iface 153 (ptr b)))
  (hput:∀W,NdAt Hk ok W n (.iface 153 (ptr b))→Below w.heap.size w W→Calls Tryz.prog 207 #[ptr b,st,.int .i64 dp,.slice (some ⟨gp,op,none⟩) p.length cap,.string y] W fun e w' => PutPost Hk ok (n.put p y) W e w') :
  Calls Tryz.prog 45 #[st,.agg #[.iface 153 (ptr b),.string h,ab,.int .i64 dp],.slice (some ⟨gp,op,none⟩) p.length cap,.string y] w fun e w' => RefPost Hk ok (n.put p y) w e w' := by
 have HBX:=hide (Boxes.new w (.iface 153 (ptr b)) (.string h) ab (.int .i64 dp) .nilIface (.string ⟨#[]⟩))
 have HN:=hide hn
 have HPu:=hide hput
 have HOK:=hide hok
 clear hn hput hok
 unfold ptr at *
 go_enter Tryz.func45,Tryz.ntmps45
 go_wp2_with fail
 generalize World.alloc (World.alloc w _) _=W2 at *
 refine (isEmpty_no w.heap.size 0 153 b W2 HBX.out.cells.1).mono ?_
 rintro e w2 ⟨rfl,rfl⟩
 obtain⟨z0,z1,z2,z3⟩:=HBX.out.cells
 go_wp2_with fail
 refine (read_any st 153 b h ab dp _).mono ?_
 rintro e w3 ⟨rfl,hb3⟩
 have HB3:=hide (HBX.out.keep hb3)
 clear hb3 z0 z1 z2 z3
 obtain⟨z0,z1,z2,z3⟩:=HB3.out.cells
 have hme:=meth_put_leaf
 unfold ptr at hme
 go_wp2_with fail
 refine (HPu.out w3 (HN.out.keep HB3.out.bel) HB3.out.bel).mono ?_
 rintro e w4 ⟨v4,rfl,hn4,hb4⟩
 obtain⟨t4,b4,rfl⟩:=hn4.some (put_ne n p y)
 unfold ptr at *
 have HB4:=hide (HB3.out.keep hb4)
 obtain⟨q0,q1,q2,q3⟩:=HB4.out.out
 have HX:=hide hn4
 clear hn4 hb4 z0 z1 z2 z3
 go_wp2
 have hfin:=two_set HB4.out.res (.iface t4 (.pointer (some ⟨b4,0,none⟩))) (.string e0)
 have r0:=cell_of_row _ _ 0 _ _ (0,0) hfin
 have r1:=cell_of_row _ _ 1 _ _ (0,0) hfin
 refine bodyPost_ret (v:=.tuple #[.agg #[.iface t4 (.pointer (some ⟨b4,0,none⟩)),.string e0],.int .i64 0]) (by simp[results,Tryz.results45,go_sem,r0,r1]) rfl ?_
 refine⟨_,rfl,?_,below_two HB4.out.bel (by omega) _ _⟩
 have hs:=HB3.out.size
 have ho:=HOK.out
 exact NdAt.mono (fun k hk=>hk.imp id (fun h=>by omega)) _ _ (NdAt.keepIn (fun k hk _=>two_other (by rcases hk with hk|hk;{ have:=ho k hk;omega };{ omega }) _ _) _ _ HX.out)
theorem meth_put_ext (b : Nat) (w : World) : (method 438 250 (ptr b) "canopy/tree.put").run Tryz.prog w = .ok (231, ptr b) w := by kernel_rfl
theorem sPut_ext (Hk:Nd→ByteArray→Prop)(ok:Nat→Prop)(n:Nd)(b:Nat)(h:ByteArray)(st ab:Value)(dp:Int)(gp op cap:Nat)(p:List Nat)(y:ByteArray)(w:World)(hok:∀k,ok k→k<w.heap.size)(hn:NdAt Hk ok w n (.iface 250 (ptr b)))
  (hput:∀W,NdAt Hk ok W n (.iface 250 (ptr b))→Below w.heap.size w W→Calls Tryz.prog 231 #[ptr b,st,.int .i64 dp,.slice (some ⟨gp,op,none⟩) p.length cap,.string y] W fun e w' => PutPost Hk ok (n.put p y) W e w') :
  Calls Tryz.prog 45 #[st,.agg #[.iface 250 (ptr b),.string h,ab,.int .i64 dp],.slice (some ⟨gp,op,none⟩) p.length cap,.string y] w fun e w' => RefPost Hk ok (n.put p y) w e w' := by
 have HBX:=hide (Boxes.new w (.iface 250 (ptr b)) (.string h) ab (.int .i64 dp) .nilIface (.string ⟨#[]⟩))
 have HN:=hide hn
 have HPu:=hide hput
 have HOK:=hide hok
 clear hn hput hok
 unfold ptr at *
 go_enter Tryz.func45,Tryz.ntmps45
 go_wp2_with fail
 generalize World.alloc (World.alloc w _) _=W2 at *
 refine (isEmpty_no w.heap.size 0 250 b W2 HBX.out.cells.1).mono ?_
 rintro e w2 ⟨rfl,rfl⟩
 obtain⟨z0,z1,z2,z3⟩:=HBX.out.cells
 go_wp2_with fail
 refine (read_any st 250 b h ab dp _).mono ?_
 rintro e w3 ⟨rfl,hb3⟩
 have HB3:=hide (HBX.out.keep hb3)
 clear hb3 z0 z1 z2 z3
 obtain⟨z0,z1,z2,z3⟩:=HB3.out.cells
 have hme:=meth_put_ext
 unfold ptr at hme
 go_wp2_with fail
 refine (HPu.out w3 (HN.out.keep HB3.out.bel) HB3.out.bel).mono ?_
 rintro e w4 ⟨v4,rfl,hn4,hb4⟩
 obtain⟨t4,b4,rfl⟩:=hn4.some (put_ne n p y)
 unfold ptr at *
 have HB4:=hide (HB3.out.keep hb4)
 obtain⟨q0,q1,q2,q3⟩:=HB4.out.out
 have HX:=hide hn4
 clear hn4 hb4 z0 z1 z2 z3
 go_wp2
 have hfin:=two_set HB4.out.res (.iface t4 (.pointer (some ⟨b4,0,none⟩))) (.string e0)
 have r0:=cell_of_row _ _ 0 _ _ (0,0) hfin
 have r1:=cell_of_row _ _ 1 _ _ (0,0) hfin
 refine bodyPost_ret (v:=.tuple #[.agg #[.iface t4 (.pointer (some ⟨b4,0,none⟩)),.string e0],.int .i64 0]) (by simp[results,Tryz.results45,go_sem,r0,r1]) rfl ?_
 refine⟨_,rfl,?_,below_two HB4.out.bel (by omega) _ _⟩
 have hs:=HB3.out.size
 have ho:=HOK.out
 exact NdAt.mono (fun k hk=>hk.imp id (fun h=>by omega)) _ _ (NdAt.keepIn (fun k hk _=>two_other (by rcases hk with hk|hk;{ have:=ho k hk;omega };{ omega }) _ _) _ _ HX.out)
theorem meth_put_br (b : Nat) (w : World) : (method 438 252 (ptr b) "canopy/tree.put").run Tryz.prog w = .ok (238, ptr b) w := by kernel_rfl
theorem sPut_br (Hk:Nd→ByteArray→Prop)(ok:Nat→Prop)(n:Nd)(b:Nat)(h:ByteArray)(st ab:Value)(dp:Int)(gp op cap:Nat)(p:List Nat)(y:ByteArray)(w:World)(hok:∀k,ok k→k<w.heap.size)(hn:NdAt Hk ok w n (.iface 252 (ptr b)))
  (hput:∀W,NdAt Hk ok W n (.iface 252 (ptr b))→Below w.heap.size w W→Calls Tryz.prog 238 #[ptr b,st,.int .i64 dp,.slice (some ⟨gp,op,none⟩) p.length cap,.string y] W fun e w' => PutPost Hk ok (n.put p y) W e w') :
  Calls Tryz.prog 45 #[st,.agg #[.iface 252 (ptr b),.string h,ab,.int .i64 dp],.slice (some ⟨gp,op,none⟩) p.length cap,.string y] w fun e w' => RefPost Hk ok (n.put p y) w e w' := by
 have HBX:=hide (Boxes.new w (.iface 252 (ptr b)) (.string h) ab (.int .i64 dp) .nilIface (.string ⟨#[]⟩))
 have HN:=hide hn
 have HPu:=hide hput
 have HOK:=hide hok
 clear hn hput hok
 unfold ptr at *
 go_enter Tryz.func45,Tryz.ntmps45
 go_wp2_with fail
 generalize World.alloc (World.alloc w _) _=W2 at *
 refine (isEmpty_no w.heap.size 0 252 b W2 HBX.out.cells.1).mono ?_
 rintro e w2 ⟨rfl,rfl⟩
 obtain⟨z0,z1,z2,z3⟩:=HBX.out.cells
 go_wp2_with fail
 refine (read_any st 252 b h ab dp _).mono ?_
 rintro e w3 ⟨rfl,hb3⟩
 have HB3:=hide (HBX.out.keep hb3)
 clear hb3 z0 z1 z2 z3
 obtain⟨z0,z1,z2,z3⟩:=HB3.out.cells
 have hme:=meth_put_br
 unfold ptr at hme
 go_wp2_with fail
 refine (HPu.out w3 (HN.out.keep HB3.out.bel) HB3.out.bel).mono ?_
 rintro e w4 ⟨v4,rfl,hn4,hb4⟩
 obtain⟨t4,b4,rfl⟩:=hn4.some (put_ne n p y)
 unfold ptr at *
 have HB4:=hide (HB3.out.keep hb4)
 obtain⟨q0,q1,q2,q3⟩:=HB4.out.out
 have HX:=hide hn4
 clear hn4 hb4 z0 z1 z2 z3
 go_wp2
 have hfin:=two_set HB4.out.res (.iface t4 (.pointer (some ⟨b4,0,none⟩))) (.string e0)
 have r0:=cell_of_row _ _ 0 _ _ (0,0) hfin
 have r1:=cell_of_row _ _ 1 _ _ (0,0) hfin
 refine bodyPost_ret (v:=.tuple #[.agg #[.iface t4 (.pointer (some ⟨b4,0,none⟩)),.string e0],.int .i64 0]) (by simp[results,Tryz.results45,go_sem,r0,r1]) rfl ?_
 refine⟨_,rfl,?_,below_two HB4.out.bel (by omega) _ _⟩
 have hs:=HB3.out.size
 have ho:=HOK.out
 exact NdAt.mono (fun k hk=>hk.imp id (fun h=>by omega)) _ _ (NdAt.keepIn (fun k hk _=>two_other (by rcases hk with hk|hk;{ have:=ho k hk;omega };{ omega }) _ _) _ _ HX.out)
theorem extUnder_any (b:Nat)(ao:Option Addr)(len cap:Nat)(t:TypeId)(ub:Nat)(h:ByteArray)(dp:Nat)(w:World)(hb:w.heap[b]? = some (.cells #[.slice ao len cap,.iface t (ptr ub),.string h] 282 (0,0)))(hd:dp≤10000)(hl:len≤10000) :
  Calls Tryz.prog 235 #[ptr b,.int .i64 (dp:Int)] w fun e w' => e=.returned (.agg #[.iface t (ptr ub),.string h,.iface 250 (ptr b),.int .i64 ((dp+len:Nat):Int)])∧Below w.heap.size w w' := by
 have hbl:=(aGe.1 hb).1
 have hB0:Below w.heap.size w (w.alloc (.cells #[.nilIface,.string ⟨#[]⟩,.nilIface,.int .i64 0] 110)):=below_alloc _ _
 have hbn:=(hB0.block b hbl).trans hb
 have c0:(w.alloc (.cells #[.nilIface,.string ⟨#[]⟩,.nilIface,.int .i64 0] 110)).cell? ⟨b,0,none⟩=some (.slice ao len cap):=cell_of_row _ b 0 _ _ (0,0) hbn
 have c1:(w.alloc (.cells #[.nilIface,.string ⟨#[]⟩,.nilIface,.int .i64 0] 110)).cell? ⟨b,1,none⟩=some (.iface t (ptr ub)):=cell_of_row _ b 1 _ _ (0,0) hbn
 have c2:(w.alloc (.cells #[.nilIface,.string ⟨#[]⟩,.nilIface,.int .i64 0] 110)).cell? ⟨b,2,none⟩=some (.string h):=cell_of_row _ b 2 _ _ (0,0) hbn
 have HR:=hide (heap_alloc_new w (.cells #[.nilIface,.string ⟨#[]⟩,.nilIface,.int .i64 0] 110))
 have k1:IntKind.i64.wrap ((dp:Int)+(len:Int))=(dp:Int)+(len:Int):=by rw[IntKind.wrap_i64];omega
 have z0:(w.alloc (.cells #[.nilIface,.string ⟨#[]⟩,.nilIface,.int .i64 0] 110)).cell? ⟨w.heap.size,0,none⟩=some .nilIface:=cell_of_row _ _ 0 _ _ (0,0) HR.out
 have z1:(w.alloc (.cells #[.nilIface,.string ⟨#[]⟩,.nilIface,.int .i64 0] 110)).cell? ⟨w.heap.size,1,none⟩=some (.string ⟨#[]⟩):=cell_of_row _ _ 1 _ _ (0,0) HR.out
 have z2:(w.alloc (.cells #[.nilIface,.string ⟨#[]⟩,.nilIface,.int .i64 0] 110)).cell? ⟨w.heap.size,2,none⟩=some .nilIface:=cell_of_row _ _ 2 _ _ (0,0) HR.out
 have z3:(w.alloc (.cells #[.nilIface,.string ⟨#[]⟩,.nilIface,.int .i64 0] 110)).cell? ⟨w.heap.size,3,none⟩=some (.int .i64 0):=cell_of_row _ _ 3 _ _ (0,0) HR.out
 have HB:=hide hB0
 clear hb hbn hB0
 unfold ptr at *
 go_enter Tryz.func235,Tryz.ntmps235
 go_wp2_with fail
 go_region
 all_goals go_wp2
 all_goals
  have hfin:=heap_alloc_new w (.cells #[.iface t (.pointer (some ⟨ub,0,none⟩)),.string h,.iface 250 (.pointer (some ⟨b,0,none⟩)),.int .i64 ((dp:Int)+(len:Int))] 110)
  refine bodyPost_ret (v:=.agg #[.iface t (.pointer (some ⟨ub,0,none⟩)),.string h,.iface 250 (.pointer (some ⟨b,0,none⟩)),.int .i64 ((dp:Int)+(len:Int))]) (by simp[results,Tryz.results235,go_sem]) rfl ?_
  exact⟨by rw[Int.natCast_add],(below_alloc _ _).drew⟩
def BePost (Hk:Nd→ByteArray→Prop)(ok:Nat→Prop)(n:Nd)(w:World)(e:Ending)(w' : World):Prop:=∃v' h', e=.returned (.agg #[v', .string h'])∧NdAt Hk (fun k=>ok k∨w.heap.size≤k) w' n v' ∧ (h' = e0∨Hk n h')∧Below w.heap.size w w'
theorem behind_any (Hk:Nd→ByteArray→Prop)(ok:Nat→Prop)(b:Nat)(q:List Nat)(m:Nd)(n:Nat)(w:World)(hn:NdAt Hk ok w (.ext q m) (.iface 250 (ptr b)))(hok:∀k,ok k→k<w.heap.size)(hm:m≠.nil)(hnl:n≤q.length)(hql:q.length≤400) :
  Calls Tryz.prog 236 #[ptr b,.int .i64 (n:Int)] w fun e w' => BePost Hk ok (behind q m n) w e w' := by
 obtain⟨b', bo,bc,u,h,hb', o1,o2,hb,hq,hb0,hbc,hmn,hmh⟩:=hn
 obtain rfl:b=b' := by simpa[ptr] using hb'
 obtain⟨t,ub,rfl⟩:=hmn.some hm
 have hbl:=(aGe.1 hb).1
 have hcell:∀W,Below w.heap.size w W→W.cell? ⟨b,0,none⟩=some (.slice bo q.length bc)∧W.cell? ⟨b,1,none⟩=some (.iface t (ptr ub))∧W.cell? ⟨b,2,none⟩=some (.string h):=fun W hW =>
  ⟨(hW.cell (p:=⟨b,0,none⟩) hbl).trans (cell_of_row w b 0 _ _ (0,0) hb),(hW.cell (p:=⟨b,1,none⟩) hbl).trans (cell_of_row w b 1 _ _ (0,0) hb),(hW.cell (p:=⟨b,2,none⟩) hbl).trans (cell_of_row w b 2 _ _ (0,0) hb)⟩
 have HC:=hide hcell
 obtain⟨c0,c1,c2⟩:=hcell _ (below_alloc w (.cells #[.nilIface,.string ⟨#[]⟩] 65))
 have HM:=hide (And.intro hmn hmh)
 have HOK:=hide hok
 clear hok
 by_cases hne:n=q.length
 ·have HP:Hid (behind q m n=m):=by show _=_;simp[behind,hne]
  have e1:((n:Int) == (q.length:Int))=true:=by simp;omega
  clear hcell hb hq hb0 hbc hmn hmh
  unfold ptr at *
  go_enter Tryz.func236,Tryz.ntmps236
  go_wp2
  refine bodyPost_ret (v:=.agg #[.iface t (.pointer (some ⟨ub,0,none⟩)),.string h]) (by simp[results,Tryz.results236,go_sem]) rfl ?_
  exact⟨_,h,rfl,by rw[HP.out];exact NdAt.mono (fun k hk=>.inl hk) _ _ (HM.out.1.keep (below_alloc _ _)),by rw[HP.out];exact HM.out.2,below_alloc _ _⟩
 ·have HP:Hid (behind q m n=.ext (q.drop n) m):=by show _=_;simp[behind,hne]
  have e1:((n:Int) == (q.length:Int))=false:=by simp;omega
  have hlt:n<q.length:=by omega
  rcases nums_form hq hb0 hbc with⟨r1,r2,r3⟩|⟨gb,off,r1⟩
  ·subst r2;simp at hlt
  ·subst r1
   have n0:(0:Int)≤(n:Int):=by omega
   have n1:(n:Int)≤(q.length:Int):=by omega
   have n2:(q.length:Int)≤(bc:Int):=by omega
   have n3:¬bc=n:=by omega
   have n4:(n:Int)<(bc:Int):=by omega
   have HCL:Hid (Calls Tryz.prog 112 #[.slice (some ⟨gb,off+n,none⟩) (q.length - n) (bc - n)] (w.alloc (.cells #[.nilIface,.string ⟨#[]⟩] 65)).drew fun e w1=>(∃ao cap,e=.returned (.slice ao (q.length - n) cap)∧PathIn (fun k=>w.heap.size+1≤k) ao (q.drop n)∧Nums w1 ao (q.drop n)∧(ao=none→cap=0)∧q.length - n≤cap∧Below w.heap.size w w1)∧w1.heap[w.heap.size]? = some (.cells #[.nilIface,.string ⟨#[]⟩] 65 (0,0))):=by
    have hB0:Below w.heap.size w (w.alloc (.cells #[.nilIface,.string ⟨#[]⟩] 65)).drew:=(below_alloc _ _).drew
    have hh:=cloneI_any (some ⟨gb,off+n,none⟩) (bc - n) (q.drop n) (w.alloc (.cells #[.nilIface,.string ⟨#[]⟩] 65)).drew ((hq.keep hB0 (Nat.le_refl _)).drop n) (fun h=>by cases h) (by rw[List.length_drop];omega) (by rw[List.length_drop];omega)
    rw[List.length_drop] at hh
    refine hh.mono ?_
    rintro e w1 ⟨a1,k1,rfl,hi1,hn1,hz1,hk1,hb1⟩
    have hs:=hB0.size
    have hs1:(w.alloc (.cells #[.nilIface,.string ⟨#[]⟩] 65)).drew.heap.size=w.heap.size+1:=by show (w.alloc _).heap.size=_;simp
    exact⟨⟨a1,k1,by rw[List.length_drop],fun a e hne=>by have:=hi1 a e hne;rw[hs1] at this;exact this,hn1,hz1,by rw[List.length_drop] at hk1;exact hk1,hB0.trans (hb1.mono hs)⟩,(hb1.block w.heap.size (by show _<(w.alloc _).heap.size;simp)).trans (heap_alloc_new w _)⟩
   clear hcell hb hq hb0 hbc hmn hmh
   unfold ptr at *
   go_enter Tryz.func236,Tryz.ntmps236
   go_wp2_with fail
   go_region_with ((go_at_call 112;refine HCL.out.mono ?_;rintro e w1 ⟨⟨a1,k1,rfl,hi1,hn1,hz1,hk1,hb1⟩,hr1⟩;obtain⟨d0,d1,d2⟩:=HC.out w1 hb1;have hra:∀o,(w1.alloc o).heap[w.heap.size]? = some (.cells #[.nilIface,.string ⟨#[]⟩] 65 (0,0)):=fun o=>(Below.heap_alloc _ _ _ (aGe.1 hr1).1).trans hr1;have y0:∀o,(w1.alloc o).cell? ⟨w.heap.size,0,none⟩=some .nilIface:=fun o=>cell_of_row _ _ 0 _ _ (0,0) (hra o);have y1:∀o,(w1.alloc o).cell? ⟨w.heap.size,1,none⟩=some (.string ⟨#[]⟩):=fun o=>cell_of_row _ _ 1 _ _ (0,0) (hra o);have f0:∀o,(w1.alloc o).frozen? ⟨w.heap.size,0,none⟩=false:=fun o=>frozen_of_row _ w.heap.size 0 _ _ (hra o);have f1:∀o,(w1.alloc o).frozen? ⟨w.heap.size,1,none⟩=false:=fun o=>frozen_of_row _ w.heap.size 1 _ _ (hra o);clear hra;have HX1:=hide (And.intro hi1 (And.intro hn1 (And.intro hz1 (And.intro hk1 (And.intro hb1 hr1)))));clear hi1 hn1 hz1 hk1 hb1 hr1))
   all_goals go_wp2
   all_goals
    have hb1:=HX1.out.2.2.2.2.1
    have hr1:=HX1.out.2.2.2.2.2
    have hra:=(Below.heap_alloc w1 (.cells #[.slice a1 (q.length - n) k1,.iface t (.pointer (some ⟨ub,0,none⟩)),.string h] 282) w.heap.size (aGe.1 hr1).1).trans hr1
    have hfin:=two_set hra (.iface 250 (.pointer (some ⟨w1.heap.size,0,none⟩))) (.string e0)
    have r0:=cell_of_row _ _ 0 _ _ (0,0) hfin
    have r1:=cell_of_row _ _ 1 _ _ (0,0) hfin
    refine bodyPost_ret (v:=.agg #[.iface 250 (.pointer (some ⟨w1.heap.size,0,none⟩)),.string e0]) (by simp[results,Tryz.results236,go_sem,r0,r1]) rfl ?_
    have hlt1:=(aGe.1 hr1).1
    have hbx:Below w.heap.size w (w1.alloc (.cells #[.slice a1 (q.length - n) k1,.iface t (.pointer (some ⟨ub,0,none⟩)),.string h] 282)):=hb1.alloc hb1.size _
    have hnd:NdAt Hk (fun k=>k≠w.heap.size∧(ok k∨w.heap.size≤k)) (w1.alloc (.cells #[.slice a1 (q.length - n) k1,.iface t (.pointer (some ⟨ub,0,none⟩)),.string h] 282)) (.ext (q.drop n) m) (.iface 250 (ptr w1.heap.size)) :=
     ⟨w1.heap.size,a1,k1,_,h,rfl,⟨by omega,.inr hb1.size⟩,fun a e hne=>by have:=HX1.out.1 a e hne;exact⟨by omega,.inr (by omega)⟩,by rw[List.length_drop];exact heap_alloc_new w1 _,HX1.out.2.1.keep (below_alloc w1 _) (Nat.le_refl _),HX1.out.2.2.1,by rw[List.length_drop];exact HX1.out.2.2.2.1,NdAt.mono (fun k hk=>⟨by have:=HOK.out k hk;omega,.inl hk⟩) _ _ (HM.out.1.keep hbx),HM.out.2⟩
    exact⟨_,e0,rfl,by rw[HP.out];exact NdAt.mono (fun k hk=>hk.2) _ _ (NdAt.keepIn (fun k hk _=>two_other hk.1 _ _) _ _ hnd),.inl rfl,below_two hbx (Nat.le_refl _) _ _⟩
def SPutOk (Hk:Nd→ByteArray→Prop)(L:Nat)(m:Nd):Prop:=∀(ok:Nat→Prop) (u:Value) (h:ByteArray) (st ab:Value) (dp gp op cap:Nat) (p:List Nat) (y:ByteArray) (w:World),(∀k,ok k→k<w.heap.size)→NdAt Hk ok w m u→(h=e0∨m≠.nil)→Nums w (some ⟨gp,op,none⟩) p→p.length≤cap→p.length≤L→dp+L≤10000→(∀i∈p,i<16) →
 Calls Tryz.prog 45 #[st,.agg #[u,.string h,ab,.int .i64 (dp:Int)],.slice (some ⟨gp,op,none⟩) p.length cap,.string y] w fun e w' => RefPost Hk ok (m.put p y) w e w'
structure PutBox (Hk:Nd→ByteArray→Prop)(ok:Nat→Prop)(n:Nd)(w X:World)(R:Nat)(v:Value):Prop where
 bel:Below w.heap.size w X
 box:X.heap[R]? = some (.cells #[v,.string e0] 65 (0,0))
 node:NdAt Hk (fun k=>ok k∨w.heap.size≤k) X n v
theorem PutBox.cells {Hk:Nd→ByteArray→Prop}{ok:Nat→Prop}{n:Nd}{w X:World}{R:Nat}{v:Value}(h:PutBox Hk ok n w X R v):X.cell? ⟨R,0,none⟩=some v∧X.cell? ⟨R,1,none⟩=some (.string e0):=⟨cell_of_row X R 0 _ _ (0,0) h.box,cell_of_row X R 1 _ _ (0,0) h.box⟩
theorem PutBox.last {Hk:Nd→ByteArray→Prop}{ok:Nat→Prop}{n:Nd}{w W w4:World}{v:Value}(hW:Below w.heap.size w W)(hn:NdAt Hk (fun k=>ok k∨W.heap.size≤k) w4 n v)(hb:Below W.heap.size W w4):PutBox Hk ok n w (w4.alloc (.cells #[v,.string e0] 65)) w4.heap.size v where
 bel:=by
  have h:=hW.trans (hb.mono hW.size)
  exact h.alloc h.size _
 box:=heap_alloc_new w4 _
 node:=NdAt.mono (fun k hk=>hk.imp id (fun h=>Nat.le_trans hW.size h)) _ _ (hn.keep (below_alloc _ _))
theorem PutBox.early {Hk:Nd→ByteArray→Prop}{ok:Nat→Prop}{n:Nd}{w W w4:World}{v:Value}{R:Nat}{a c:Value}(hok:∀k,ok k→k<w.heap.size)(hW:Below w.heap.size w W)(hn:NdAt Hk (fun k=>ok k∨W.heap.size≤k) w4 n v)(hb:Below W.heap.size W w4)(hR:w.heap.size≤R)(hRW:R<W.heap.size)(hbx:w4.heap[R]? = some (.cells #[a,c] 65 (0,0))):PutBox Hk ok n w ((w4.setCell ⟨R,0,none⟩ v).setCell ⟨R,1,none⟩ (.string e0)) R v where
 bel:=below_two (hW.trans (hb.mono hW.size)) hR _ _
 box:=two_set hbx _ _
 node:=NdAt.mono (fun k hk=>hk.imp id (fun h=>Nat.le_trans hW.size h)) _ _ (NdAt.keepIn (fun k hk _=>two_other (by
  intro e
  subst e
  rcases hk with hk|hk
  ·have:=hok k hk;omega
  ·omega) _ _) _ _ hn)
theorem extPut_in (Hk:Nd→ByteArray→Prop)(L:Nat)(ok:Nat→Prop)(b:Nat)(st:Value)(dp gp op cap:Nat)(p q:List Nat)(m:Nd)(y:ByteArray)(w:World)(hok:∀k,ok k→k<w.heap.size)(hn:NdAt Hk ok w (.ext q m) (.iface 250 (ptr b)))(hm:m≠.nil)(hp:Nums w (some ⟨gp,op,none⟩) p)(hc:p.length≤cap)(hpl:p.length≤L)(hL:L≤400)(hqL:q.length≤L)(hd:dp+L≤10000)(hp16:∀i∈p,i<16)(hsh:shared q p=q.length)(ih:SPutOk Hk (L - q.length) m) :
  Calls Tryz.prog 231 #[ptr b,st,.int .i64 (dp:Int),.slice (some ⟨gp,op,none⟩) p.length cap,.string y] w fun e w' => PutPost Hk ok ((Nd.ext q m).put p y) w e w' := by
 have HPT:Hid ((Nd.ext q m).put p y=.ext q (m.put (p.drop q.length) y)):=by show _=_;simp[Nd.put,hsh]
 obtain⟨b', bo,bc,u,h,hb', o1,o2,hb,hq,hb0,hbc,hmn,hmh⟩:=hn
 obtain rfl:b=b' := by simpa[ptr] using hb'
 obtain⟨t,ub,rfl⟩:=hmn.some hm
 have hbl:=(aGe.1 hb).1
 have hsr:=shared_le_right q p
 rw[hsh] at hsr
 have hcell:∀W,Below w.heap.size w W→W.cell? ⟨b,0,none⟩=some (.slice bo q.length bc):=fun W hW=>(hW.cell (p:=⟨b,0,none⟩) hbl).trans (cell_of_row w b 0 _ _ (0,0) hb)
 have HC:=hide hcell
 have c0:=hcell w (Below.refl _ _)
 have HS:Hid (Calls Tryz.prog 214 #[.slice bo q.length bc,.slice (some ⟨gp,op,none⟩) p.length cap] w fun e w' => e=.returned (.int .i64 (q.length:Int))∧Below w.heap.size w w'):=by
  have h1:=sharedI_any bo (some ⟨gp,op,none⟩) bc cap q p w hq hp (by omega)
  rw[hsh] at h1
  exact h1
 have HU:Hid (∀W,Below w.heap.size w W→Calls Tryz.prog 235 #[ptr b,.int .i64 (dp:Int)] W fun e w' => e=.returned (.agg #[.iface t (ptr ub),.string h,.iface 250 (ptr b),.int .i64 ((dp:Int)+(q.length:Int))])∧Below W.heap.size W w') :=
  fun W hW=>by
   have h1:=extUnder_any b bo q.length bc t ub h dp W ((hW.block b hbl).trans hb) (by omega) (by omega)
   rw[Int.natCast_add] at h1
   exact h1
 have hiw:∀(a l c:Nat) W,Below w.heap.size w W→Nums w (some ⟨gp,a,none⟩) (p.drop q.length)→l=p.length - q.length→l≤c→Calls Tryz.prog 45 #[st,.agg #[.iface t (ptr ub),.string h,.iface 250 (ptr b),.int .i64 ((dp:Int)+(q.length:Int))],.slice (some ⟨gp,a,none⟩) l c,.string y] W fun e w' => RefPost Hk ok (m.put (p.drop q.length) y) W e w' := by
  intro a l c W hW hnu hl hlc
  subst hl
  have h1:=ih ok (.iface t (ptr ub)) h st (.iface 250 (ptr b)) (dp+q.length) gp a c (p.drop q.length) y W (fun k hk=>Nat.lt_of_lt_of_le (hok k hk) hW.size) (hmn.keep hW) (.inr hm) (hnu.keep hW (Nat.le_refl _)) (by rw[List.length_drop];exact hlc) (by rw[List.length_drop];omega) (by omega) (fun i hi=>hp16 i (List.mem_of_mem_drop hi))
  rw[List.length_drop,Int.natCast_add] at h1
  exact h1
 have hgo:∀(X wf:World) (R:Nat) (v4:Value),PutBox Hk ok (m.put (p.drop q.length) y) w X R v4→Below X.heap.size X wf→∀E,X.heap.size≤E→wf.heap[E]? = some (.cells #[.slice bo q.length bc,v4,.string e0] 282 (0,0))→PutPost Hk ok ((Nd.ext q m).put p y) w (.returned (.tuple #[.iface 250 (ptr E),.int .i64 0])) wf:=by
  intro X wf R v4 hg hbf E hE hext
  have hbb:Below w.heap.size w wf:=hg.bel.trans (hbf.mono hg.bel.size)
  refine⟨_,rfl,?_,hbb⟩
  rw[HPT.out]
  exact⟨E,bo,bc,v4,e0,rfl,.inr (Nat.le_trans hg.bel.size hE),fun a e hne=>.inl (o2 a e hne),hext,hq.keep hbb (Nat.le_refl _),hb0,hbc,hg.node.keep hbf,.inl rfl⟩
 have HFI:=hide hgo
 have qI1:(q.length:Int)≤(p.length:Int):=by omega
 have pI1:(p.length:Int)≤(cap:Int):=by omega
 have q0:(0:Int)≤(q.length:Int):=by omega
 by_cases hcq:cap=q.length
 ·obtain rfl:q=p:=by
   have h1:=shared_take q p
   rw[hsh,List.take_length,List.take_of_length_le (by omega)] at h1
   exact h1
  obtain rfl:cap=q.length:=hcq
  have HI:=hide (fun W hW=>hiw op 0 0 W hW (by rw[List.drop_length];exact Nums.nil (fun a e=>by injection e with e;rw[←e])) (by omega) (by omega))
  have HOK:=hide hok
  clear hiw hgo hcell hok hb hq hb0 hbc hmn hmh hp hsh ih
  unfold ptr at *
  go_enter Tryz.func231,Tryz.ntmps231
  go_wp2_with fail
  refine HS.out.mono ?_
  rintro e w1 ⟨rfl,hb1⟩
  have HB1:=hide hb1
  have d0:=HC.out w1 hb1
  clear hb1
  go_wp2_with fail
  go_region_with ((first
   | (go_at_call 235;refine (HU.out _ (by first|exact HB1.out.drew|exact (HB1.out.drew).alloc HB1.out.size _|exact (HB1.out.alloc HB1.out.size _).drew)).mono ?_;rintro e w2 ⟨rfl,hb2⟩;have HB2:Hid (Below w.heap.size w w2):=(by first|exact HB1.out.drew.trans (hb2.mono HB1.out.size)|exact ((HB1.out.alloc HB1.out.size _).drew).trans (hb2.mono (Nat.le_trans HB1.out.size (by show _≤(World.alloc _ _).heap.size;simp))));(first|(have hbx:w2.heap[w1.heap.size]? = some (.cells #[.nilIface,.string ⟨#[]⟩] 65 (0,0)):=(hb2.block w1.heap.size (by show _<(World.alloc _ _).heap.size;simp)).trans (heap_alloc_new w1 _))|skip);clear hb2)
   | (go_at_call 45;refine (HI.out _ (by first|exact HB2.out|exact HB2.out.alloc HB2.out.size _)).mono ?_;rintro e w4 ⟨v4,rfl,hn4,hb4⟩;obtain⟨t4,b4,rfl⟩:=hn4.some (put_ne m _ y);(first|(have hby:w4.heap[w2.heap.size]? = some (.cells #[.nilIface,.string ⟨#[]⟩] 65 (0,0)):=(hb4.block w2.heap.size (by simp)).trans (heap_alloc_new w2 _);have y0:w4.cell? ⟨w2.heap.size,0,none⟩=some .nilIface:=cell_of_row w4 _ 0 _ _ (0,0) hby;have y1:w4.cell? ⟨w2.heap.size,1,none⟩=some (.string ⟨#[]⟩):=cell_of_row w4 _ 1 _ _ (0,0) hby;have f0:=frozen_of_row w4 w2.heap.size 0 _ _ hby;have f1:=frozen_of_row w4 w2.heap.size 1 _ _ hby)|(have hby:w4.heap[w1.heap.size]? = some (.cells #[.nilIface,.string ⟨#[]⟩] 65 (0,0)):=(hb4.block w1.heap.size (aGe.1 hbx).1).trans hbx;have y0:w4.cell? ⟨w1.heap.size,0,none⟩=some .nilIface:=cell_of_row w4 _ 0 _ _ (0,0) hby;have y1:w4.cell? ⟨w1.heap.size,1,none⟩=some (.string ⟨#[]⟩):=cell_of_row w4 _ 1 _ _ (0,0) hby;have f0:=frozen_of_row w4 w1.heap.size 0 _ _ hby;have f1:=frozen_of_row w4 w1.heap.size 1 _ _ hby)|skip);have HX4:=hide (And.intro hn4 hb4);clear hn4 hb4)))
  all_goals first
   | (have HG:=hide (PutBox.early HOK.out HB2.out HX4.out.1 HX4.out.2 HB1.out.size (aGe.1 hbx).1 hby);generalize World.setCell (World.setCell w4 _ _) _ _=X at *;generalize w1.heap.size=R at *)
   | (have HG:=hide (PutBox.early HOK.out (HB2.out.alloc HB2.out.size _) HX4.out.1 HX4.out.2 HB2.out.size (by simp) hby);generalize World.setCell (World.setCell w4 _ _) _ _=X at *;generalize w2.heap.size=R at *)
   | (have HG:=hide (PutBox.last HB2.out HX4.out.1 HX4.out.2);generalize World.alloc w4 _=X at *;generalize w4.heap.size=R at *)
  all_goals
   obtain⟨x0,x1⟩:=HG.out.cells
   have d1:=HC.out X HG.out.bel
   clear HX4
   go_wp2_with fail
   go_region
  all_goals go_wp2
  all_goals go_ret2
  all_goals exact HFI.out X _ R _ HG.out (by first|exact (below_alloc X _).drew|exact (drew_below X 1).alloc (Nat.le_refl _) _|exact below_alloc X _) X.heap.size (Nat.le_refl _) (heap_alloc_new X _)
 ·have HI:=hide (fun W hW=>hiw (op+q.length) (p.length - q.length) (cap - q.length) W hW (hp.drop q.length) rfl (by omega))
  have cI:(q.length:Int)<(cap:Int):=by omega
  have HOK:=hide hok
  clear hiw hgo hcell hok hb hq hb0 hbc hmn hmh hp hsh ih
  unfold ptr at *
  go_enter Tryz.func231,Tryz.ntmps231
  go_wp2_with fail
  refine HS.out.mono ?_
  rintro e w1 ⟨rfl,hb1⟩
  have HB1:=hide hb1
  have d0:=HC.out w1 hb1
  clear hb1
  go_wp2_with fail
  go_region_with ((first
   | (go_at_call 235;refine (HU.out _ (by first|exact HB1.out.drew|exact (HB1.out.drew).alloc HB1.out.size _|exact (HB1.out.alloc HB1.out.size _).drew)).mono ?_;rintro e w2 ⟨rfl,hb2⟩;have HB2:Hid (Below w.heap.size w w2):=(by first|exact HB1.out.drew.trans (hb2.mono HB1.out.size)|exact ((HB1.out.alloc HB1.out.size _).drew).trans (hb2.mono (Nat.le_trans HB1.out.size (by show _≤(World.alloc _ _).heap.size;simp))));(first|(have hbx:w2.heap[w1.heap.size]? = some (.cells #[.nilIface,.string ⟨#[]⟩] 65 (0,0)):=(hb2.block w1.heap.size (by show _<(World.alloc _ _).heap.size;simp)).trans (heap_alloc_new w1 _))|skip);clear hb2)
   | (go_at_call 45;refine (HI.out _ (by first|exact HB2.out|exact HB2.out.alloc HB2.out.size _)).mono ?_;rintro e w4 ⟨v4,rfl,hn4,hb4⟩;obtain⟨t4,b4,rfl⟩:=hn4.some (put_ne m _ y);(first|(have hby:w4.heap[w2.heap.size]? = some (.cells #[.nilIface,.string ⟨#[]⟩] 65 (0,0)):=(hb4.block w2.heap.size (by simp)).trans (heap_alloc_new w2 _);have y0:w4.cell? ⟨w2.heap.size,0,none⟩=some .nilIface:=cell_of_row w4 _ 0 _ _ (0,0) hby;have y1:w4.cell? ⟨w2.heap.size,1,none⟩=some (.string ⟨#[]⟩):=cell_of_row w4 _ 1 _ _ (0,0) hby;have f0:=frozen_of_row w4 w2.heap.size 0 _ _ hby;have f1:=frozen_of_row w4 w2.heap.size 1 _ _ hby)|(have hby:w4.heap[w1.heap.size]? = some (.cells #[.nilIface,.string ⟨#[]⟩] 65 (0,0)):=(hb4.block w1.heap.size (aGe.1 hbx).1).trans hbx;have y0:w4.cell? ⟨w1.heap.size,0,none⟩=some .nilIface:=cell_of_row w4 _ 0 _ _ (0,0) hby;have y1:w4.cell? ⟨w1.heap.size,1,none⟩=some (.string ⟨#[]⟩):=cell_of_row w4 _ 1 _ _ (0,0) hby;have f0:=frozen_of_row w4 w1.heap.size 0 _ _ hby;have f1:=frozen_of_row w4 w1.heap.size 1 _ _ hby)|skip);have HX4:=hide (And.intro hn4 hb4);clear hn4 hb4)))
  all_goals first
   | (have HG:=hide (PutBox.early HOK.out HB2.out HX4.out.1 HX4.out.2 HB1.out.size (aGe.1 hbx).1 hby);generalize World.setCell (World.setCell w4 _ _) _ _=X at *;generalize w1.heap.size=R at *)
   | (have HG:=hide (PutBox.early HOK.out (HB2.out.alloc HB2.out.size _) HX4.out.1 HX4.out.2 HB2.out.size (by simp) hby);generalize World.setCell (World.setCell w4 _ _) _ _=X at *;generalize w2.heap.size=R at *)
   | (have HG:=hide (PutBox.last HB2.out HX4.out.1 HX4.out.2);generalize World.alloc w4 _=X at *;generalize w4.heap.size=R at *)
  all_goals
   obtain⟨x0,x1⟩:=HG.out.cells
   have d1:=HC.out X HG.out.bel
   clear HX4
   go_wp2_with fail
   go_region
  all_goals go_wp2
  all_goals go_ret2
  all_goals exact HFI.out X _ R _ HG.out (by first|exact (below_alloc X _).drew|exact (drew_below X 1).alloc (Nat.le_refl _) _|exact below_alloc X _) X.heap.size (Nat.le_refl _) (heap_alloc_new X _)
end Go.Proofs.YthdjmldddjljfaaGreatDoor
