/-
  OUR OWN.
-/
import Derived.Test.YthdjmldddjljfaaGreatDoorH21
import Derived.Laws.Tables
set_option maxHeartbeats 8000000
set_option maxRecDepth 20000
namespace Go.Proofs.YthdjmldddjljfaaGreatDoor
open Go.RowKit
attribute [local go_sem ↓] Go.wp_at_zero Go.wp_at_succ
theorem brUnder_any (b i:Nat)(u:Value)(h:ByteArray)(dp:Nat)(w:World)(hu:isNd u)(c0:w.cell? ⟨b,i*2,none⟩=some u)(c1:w.cell? ⟨b,i*2+1,none⟩=some (.string h))(hi:i<16)(hd:dp≤10000) :
  Calls Tryz.prog 241 #[ptr b,.int .i64 (i:Int),.int .i64 (dp:Int)] w fun e w' => e=.returned (.agg #[u,.string h,.iface 252 (ptr b),.int .i64 ((dp:Int)+1)])∧Below w.heap.size w w' := by
 have hbl:=World.block_lt_of_cell? w _ c0
 have d0:∀o,(w.alloc o).cell? ⟨b,i*2,none⟩=some u:=fun o=>((below_alloc w o).cell (p:=⟨b,i*2,none⟩) hbl).trans c0
 have d1:∀o,(w.alloc o).cell? ⟨b,i*2+1,none⟩=some (.string h):=fun o=>((below_alloc w o).cell (p:=⟨b,i*2+1,none⟩) hbl).trans c1
 have i0:(0:Int)≤(i:Int):=by omega
 have i1:(i:Int)<16:=by omega
 have k1:IntKind.i64.wrap ((dp:Int)+1)=(dp:Int)+1:=by rw[IntKind.wrap_i64];omega
 clear c0 c1
 unfold ptr at *
 rcases hu with rfl|⟨t,ub,rfl⟩
 ·go_enter Tryz.func241,Tryz.ntmps241
  go_wp2
  refine bodyPost_ret (v:=.agg #[.nilIface,.string h,.iface 252 (.pointer (some ⟨b,0,none⟩)),.int .i64 ((dp:Int)+1)]) (by simp[results,Tryz.results241,go_sem]) rfl ?_
  exact⟨rfl,below_alloc _ _⟩
 ·unfold ptr at *
  go_enter Tryz.func241,Tryz.ntmps241
  go_wp2
  refine bodyPost_ret (v:=.agg #[.iface t (.pointer (some ⟨ub,0,none⟩)),.string h,.iface 252 (.pointer (some ⟨b,0,none⟩)),.int .i64 ((dp:Int)+1)]) (by simp[results,Tryz.results241,go_sem]) rfl ?_
  exact⟨rfl,below_alloc _ _⟩
theorem sizeBr (us:Nat→Value)(hs:Nat→ByteArray)(x:ByteArray):(Tryz.prog.info? 285).map (·.size)=some (brCells us hs x).size:=by rw[brCells_size];kernel_rfl
theorem brCells_one (us:Nat→Value)(hs:Nat→ByteArray)(x:ByteArray)(h:∀i,i<16→isNd (us i)):(brCells us hs x).all (·.oneCell')=true:=by
 rw[Array.all_eq_true]
 intro j hj
 rw[brCells_size] at hj
 have e:(brCells us hs x)[j]? = some (brCell us hs x j):=brCells_get us hs x j hj
 have e2:(brCells us hs x)[j]'(by rw[brCells_size];exact hj)=brCell us hs x j:=by
  have:=aGe.1 e
  exact this.2
 rw[e2]
 unfold brCell
 split
 ·rfl
 ·split
  ·rcases h (j / 2) (by omega) with h|⟨t,b,h⟩<;>rw[h]<;>rfl
  ·rfl
theorem FkAt.valCell {Hk:Nd→ByteArray→Prop}{ok:Nat→Prop}{w:World}{bk:Nat}{c:Nat→Nd}{x:ByteArray}(h:FkAt Hk ok w bk c x):(∃a,w.cell? ⟨bk,32,none⟩=some a)∧w.frozen? ⟨bk,32,none⟩=false:=by
 obtain⟨us,hs,hf,hc⟩:=h
 exact⟨⟨_,br_val hf.blk⟩,frozen_of_row w bk _ _ _ hf.blk⟩
theorem FkAt.setVal {Hk:Nd→ByteArray→Prop}{ok:Nat→Prop}{w:World}{bk:Nat}{c:Nat→Nd}{x:ByteArray}(h:FkAt Hk ok w bk c x)(hok:¬ok bk)(y:ByteArray):FkAt Hk ok (w.setCell ⟨bk,32,none⟩ (.string y)) bk c y:=by
 obtain⟨us,hs,hf,hc⟩:=h
 refine⟨us,hs,⟨?_⟩,fun j hj=>⟨NdAt.keepIn (fun k hk _=>Below.heap_setCell _ _ _ _ (fun e=>hok (by have e:k=bk:=e;rw[←e];exact hk))) _ _ (hc j hj).1,(hc j hj).2⟩⟩
 have h1:=heap_setCell_same w bk 32 _ 285 (.string y) hf.blk
 rw[brCells_val] at h1
 exact h1
theorem copied {Hk:Nd→ByteArray→Prop}{ok:Nat→Prop}{w:World}{us:Nat→Value}{hs:Nat→ByteArray}{x:ByteArray}{c:Nat→Nd}(hch:∀i,i<16→NdAt Hk ok w (c i) (us i)∧(hs i=e0∨(c i≠.nil∧Hk (c i) (hs i))))(zs:Array Value) :
  FkAt Hk ok ((w.alloc (.cells zs 285)).setRow w.heap.size (brCells us hs x)) w.heap.size c x∧Below w.heap.size w ((w.alloc (.cells zs 285)).setRow w.heap.size (brCells us hs x))∧((w.alloc (.cells zs 285)).setRow w.heap.size (brCells us hs x)).heap.size=w.heap.size+1:=by
 have hbel:Below w.heap.size w ((w.alloc (.cells zs 285)).setRow w.heap.size (brCells us hs x)) :=
  (below_alloc w _).trans ⟨rfl,rfl,rfl,by simp,fun k hk=>setRow_other _ _ _ _ (by omega)⟩
 refine⟨⟨us,hs,⟨setRow_heap _ _ zs _ 285 (0,0) (heap_alloc_new w _)⟩,fun i hi=>⟨(hch i hi).1.keep hbel,(hch i hi).2⟩⟩,hbel,by simp⟩
theorem brPut_nil (Hk:Nd→ByteArray→Prop)(ok:Nat→Prop)(b:Nat)(st:Value)(dp:Nat)(ao:Option Addr)(cap:Nat)(c:Nat→Nd)(x y:ByteArray)(w:World)(hok:∀k,ok k→k<w.heap.size)(hn:NdAt Hk ok w (.br c x) (.iface 252 (ptr b))) :
  Calls Tryz.prog 238 #[ptr b,st,.int .i64 (dp:Int),.slice ao 0 cap,.string y] w fun e w' => PutPost Hk ok ((Nd.br c x).put [] y) w e w' := by
 have HPT:Hid ((Nd.br c x).put [] y=.br c y):=by show _=_;simp[Nd.put]
 obtain⟨b', us,hs,hb', o1,hb,hch⟩:=hn
 obtain rfl:b=b' := by simpa[ptr] using hb'
 have HBk:=hide hb
 have HOne:=hide (brCells_one us hs x (fun i hi=>(hch i hi).1.isNd))
 have HCp:=hide (copied (x:=x) hch #[.nilIface,.string ⟨#[]⟩,.nilIface,.string ⟨#[]⟩,.nilIface,.string ⟨#[]⟩,.nilIface,.string ⟨#[]⟩,.nilIface,.string ⟨#[]⟩,.nilIface,.string ⟨#[]⟩,.nilIface,.string ⟨#[]⟩,.nilIface,.string ⟨#[]⟩,.nilIface,.string ⟨#[]⟩,.nilIface,.string ⟨#[]⟩,.nilIface,.string ⟨#[]⟩,.nilIface,.string ⟨#[]⟩,.nilIface,.string ⟨#[]⟩,.nilIface,.string ⟨#[]⟩,.nilIface,.string ⟨#[]⟩,.nilIface,.string ⟨#[]⟩,.string ⟨#[]⟩])
 have HOK:=hide hok
 clear hb hch hok
 unfold ptr at *
 go_enter Tryz.func238,Tryz.ntmps238
 go_wp2_with (first
  | (refine wpList_load_row rfl 285 (.tmp 16) rfl b rfl 285 (brCells us hs x) (0,0) _ HBk.out Tryz.underlying285 rfl (sizeBr us hs x) ?_)
  | (refine wpList_store_row rfl 285 (.tmp 12) (.tmp 17) rfl w.heap.size (brCells us hs x) rfl rfl 285 _ (heap_alloc_new w _) (sizeBr us hs x) (by rw[brCells_size];rfl) HOne.out ?_;generalize World.setRow _ _ _=W2 at *;have hv:=HCp.out.1.valCell.1;have hz:=HCp.out.1.valCell.2;obtain⟨hva,hvb⟩:=hv))
 go_ret2
 have hf:=HCp.out.1.setVal (fun h=>by have:=HOK.out _ h;omega) y
 refine⟨_,rfl,?_,HCp.out.2.1.setCell (p:=⟨w.heap.size,32,none⟩) (Nat.le_refl _) _⟩
 rw[HPT.out]
 exact NdAt.mono (fun k hk=>hk.imp id (fun h=>by omega)) _ _ hf.node
theorem brPut_cons (Hk:Nd→ByteArray→Prop)(L:Nat)(ok:Nat→Prop)(b:Nat)(st:Value)(dp gp op cap:Nat)(i:Nat)(p:List Nat)(c:Nat→Nd)(x y:ByteArray)(w:World)(hok:∀k,ok k→k<w.heap.size)(hn:NdAt Hk ok w (.br c x) (.iface 252 (ptr b)))(hp:Nums w (some ⟨gp,op,none⟩) (i :: p))(hc:(i :: p).length≤cap)(hpl:(i :: p).length≤L)(hL:L≤400)(hd:dp+L≤10000)(hp16:∀j∈i :: p,j<16)(ih:SPutOk Hk (L - 1) (c i)) :
  Calls Tryz.prog 238 #[ptr b,st,.int .i64 (dp:Int),.slice (some ⟨gp,op,none⟩) (p.length+1) cap,.string y] w fun e w' => PutPost Hk ok ((Nd.br c x).put (i :: p) y) w e w' := by
 have HPT:Hid ((Nd.br c x).put (i :: p) y=.br (upd c i ((c i).put p y)) x):=by show _=_;simp[Nd.put]
 obtain⟨b', us,hs,hb', o1,hb,hch⟩:=hn
 obtain rfl:b=b' := by simpa[ptr] using hb'
 have hi16:=hp16 i (List.mem_cons_self ..)
 have hbl:=(aGe.1 hb).1
 obtain⟨gp', op', hgo,hpc⟩:=hp.at' 0 (by simp)
 obtain⟨rfl,rfl⟩:gp=gp' ∧ op=op' := by simpa using hgo
 simp only[List.getD_cons_zero,Nat.add_zero] at hpc
 have hpbl:=World.block_lt_of_cell? w _ hpc
 have hcell:∀W,Below w.heap.size w W→W.cell? ⟨gp,op,none⟩=some (.int .i64 (i:Int))∧W.cell? ⟨b,i*2,none⟩=some (us i)∧W.cell? ⟨b,i*2+1,none⟩=some (.string (hs i)):=fun W hW =>
  ⟨(hW.cell (p:=⟨gp,op,none⟩) hpbl).trans hpc,(hW.cell (p:=⟨b,i*2,none⟩) hbl).trans (br_ref hb i hi16).1,(hW.cell (p:=⟨b,i*2+1,none⟩) hbl).trans (br_ref hb i hi16).2⟩
 have HC:=hide hcell
 have HU:Hid (∀W,Below w.heap.size w W→Calls Tryz.prog 241 #[ptr b,.int .i64 (i:Int),.int .i64 (dp:Int)] W fun e w' => e=.returned (.agg #[us i,.string (hs i),.iface 252 (ptr b),.int .i64 ((dp:Int)+1)])∧Below W.heap.size W w') :=
  fun W hW=>brUnder_any b i (us i) (hs i) dp W (hch i hi16).1.isNd (hcell W hW).2.1 (hcell W hW).2.2 hi16 (by omega)
 have hiw:∀(a l cc:Nat) W,Below w.heap.size w W→Nums w (some ⟨gp,a,none⟩) p→l=p.length→l≤cc→Calls Tryz.prog 45 #[st,.agg #[us i,.string (hs i),.iface 252 (ptr b),.int .i64 ((dp:Int)+1)],.slice (some ⟨gp,a,none⟩) l cc,.string y] W fun e w' => RefPost Hk ok ((c i).put p y) W e w' := by
  intro a l cc W hW hnu hl hlc
  subst hl
  have h1:=ih ok (us i) (hs i) st (.iface 252 (ptr b)) (dp+1) gp a cc p y W (fun k hk=>Nat.lt_of_lt_of_le (hok k hk) hW.size) ((hch i hi16).1.keep hW) ((hch i hi16).2.imp id (fun h=>h.1)) (hnu.keep hW (Nat.le_refl _)) hlc (by simp at hpl;omega) (by simp at hpl;omega) (fun j hj=>hp16 j (List.mem_cons_of_mem _ hj))
  rw[Int.natCast_add] at h1
  exact h1
 have hfx:∀(W2 X:World) (R t4 b4:Nat),Below w.heap.size w W2→W2.heap.size=w.heap.size+1→FkAt Hk ok W2 w.heap.size c x→PutBox Hk ok ((c i).put p y) W2 X R (.iface t4 (ptr b4))→X.cell? ⟨gp,op,none⟩=some (.int .i64 (i:Int))∧(∃a,X.cell? ⟨w.heap.size,i*2,none⟩=some a)∧(∃a,X.cell? ⟨w.heap.size,i*2+1,none⟩=some a)∧X.frozen? ⟨w.heap.size,i*2,none⟩=false∧X.frozen? ⟨w.heap.size,i*2+1,none⟩=false∧True∧True:=by
  intro W2 X R t4 b4 hW hsz hf hg
  have hf2:=hf.keep hg.bel
  obtain⟨r1,r2,r3,r4⟩:=hf2.refCell i hi16
  exact⟨(hcell X (hW.trans (hg.bel.mono hW.size))).1,r1,r2,r3,r4,trivial,trivial⟩
 have hfin:∀(W2 X:World) (R t4 b4:Nat),Below w.heap.size w W2→W2.heap.size=w.heap.size+1→FkAt Hk ok W2 w.heap.size c x→PutBox Hk ok ((c i).put p y) W2 X R (.iface t4 (ptr b4))→∀wf,Below ((X.setCell ⟨w.heap.size,i*2,none⟩ (.iface t4 (ptr b4))).setCell ⟨w.heap.size,i*2+1,none⟩ (.string e0)).heap.size ((X.setCell ⟨w.heap.size,i*2,none⟩ (.iface t4 (ptr b4))).setCell ⟨w.heap.size,i*2+1,none⟩ (.string e0)) wf→PutPost Hk ok ((Nd.br c x).put (i :: p) y) w (.returned (.tuple #[.iface 252 (ptr w.heap.size),.int .i64 0])) wf:=by
  intro W2 X R t4 b4 hW hsz hf hg wf hwf
  have hbX:Below w.heap.size w X:=hW.trans (hg.bel.mono hW.size)
  have hf2:FkAt Hk (fun k=>ok k∨W2.heap.size≤k) X w.heap.size c x:=(hf.keep hg.bel).mono (fun k hk=>.inl hk)
  have hf3:=hf2.setRef (fun h=>by rcases h with h|h;{ have:=hok _ h;omega };{ omega }) i hi16 _ (.iface t4 (ptr b4)) e0 hg.node (.inl rfl)
  have hb3:=below_ref hbX (Nat.le_refl _) (i*2) (i*2+1) (.iface t4 (ptr b4)) (.string e0)
  refine⟨_,rfl,?_,hb3.trans (hwf.mono hb3.size)⟩
  rw[HPT.out]
  refine NdAt.mono (fun k hk=>?_) _ _ ((hf3.keep hwf).node)
  rcases hk with (hk|hk)|hk
  ·exact .inl hk
  ·exact .inr (by omega)
  ·exact .inr (by omega)
 have HFin:=hide hfin
 have HFx:=hide hfx
 have HOK2:Hid (∀W,Below w.heap.size w W→∀k,ok k→k<W.heap.size):=fun W hW k hk=>Nat.lt_of_lt_of_le (hok k hk) hW.size
 have HBk:=hide hb
 have HOne:=hide (brCells_one us hs x (fun i hi=>(hch i hi).1.isNd))
 have HCp:=hide (copied (x:=x) hch #[.nilIface,.string ⟨#[]⟩,.nilIface,.string ⟨#[]⟩,.nilIface,.string ⟨#[]⟩,.nilIface,.string ⟨#[]⟩,.nilIface,.string ⟨#[]⟩,.nilIface,.string ⟨#[]⟩,.nilIface,.string ⟨#[]⟩,.nilIface,.string ⟨#[]⟩,.nilIface,.string ⟨#[]⟩,.nilIface,.string ⟨#[]⟩,.nilIface,.string ⟨#[]⟩,.nilIface,.string ⟨#[]⟩,.nilIface,.string ⟨#[]⟩,.nilIface,.string ⟨#[]⟩,.nilIface,.string ⟨#[]⟩,.nilIface,.string ⟨#[]⟩,.string ⟨#[]⟩])
 have i0:(0:Int)≤(i:Int):=by omega
 have i1:(i:Int)<16:=by omega
 have p1:(p.length:Int)+1≤(cap:Int):=by simp at hc;omega
 have p2:(((p.length:Int)+1) == 0)=false:=by simp;omega
 have p3:(1:Int)≤(p.length:Int)+1:=by omega
 have hd1:=hp.drop 1
 rw[List.drop_one,List.tail_cons] at hd1
 by_cases hcap:cap=1
 ·subst hcap
  obtain rfl:p=[]:=List.length_eq_zero_iff.1 (by simp at hc;omega)
  have HI:=hide (fun W hW=>hiw op 0 0 W hW (Nums.nil (fun a e=>by injection e with e;rw[←e])) rfl (Nat.le_refl _))
  have HI2:Hid (∀W2,Below w.heap.size w W2→∀W,Below W2.heap.size W2 W→Calls Tryz.prog 45 #[st,.agg #[us i,.string (hs i),.iface 252 (ptr b),.int .i64 ((dp:Int)+1)],.slice (some ⟨gp,op,none⟩) 0 0,.string y] W fun e w' => RefPost Hk ok ((c i).put [] y) W e w'):=fun W2 h2 W hW=>HI.out W (h2.trans (hW.mono h2.size))
  clear hcell hiw hfin hfx hb hch hp hok ih hd1 hpc HI hc
  unfold ptr at *
  go_enter Tryz.func238,Tryz.ntmps238
  go_wp2_with (first
   | (refine wpList_load_row rfl 285 (.tmp 16) rfl b rfl 285 (brCells us hs x) (0,0) _ HBk.out Tryz.underlying285 rfl (sizeBr us hs x) ?_)
   | (refine wpList_store_row rfl 285 (.tmp 12) (.tmp 17) rfl w.heap.size (brCells us hs x) rfl rfl 285 _ (heap_alloc_new w _) (sizeBr us hs x) (by rw[brCells_size];rfl) HOne.out ?_;generalize World.setRow _ _ _=W2 at *))
  have HI:=hide (HI2.out W2 HCp.out.2.1)
  clear HI2
  have HB2:Hid (Below w.heap.size w W2):=HCp.out.2.1
  have hsz2:W2.heap.size=w.heap.size+1:=HCp.out.2.2
  have HSZ:=hide hsz2
  clear hsz2
  obtain⟨pc,uc0,uc1⟩:=HC.out W2 HB2.out
  have pca:∀o,(W2.alloc o).cell? ⟨gp,op,none⟩=some (.int .i64 (i:Int)):=fun o=>(HC.out _ (HB2.out.alloc HB2.out.size o)).1
  go_region_with ((first
   | (go_at_call 241;refine (HU.out _ (by first|exact HB2.out.drew|exact (HB2.out.drew).alloc HB2.out.size _|exact (HB2.out.alloc HB2.out.size _).drew)).mono ?_;rintro e w3 ⟨rfl,hb3⟩;have HB3:Hid (Below W2.heap.size W2 w3):=(by first|exact (Below.refl _ _).drew.trans hb3|exact ((below_alloc W2 _).drew).trans (hb3.mono (by show _≤(World.alloc _ _).heap.size;simp)));have pc3:=(HC.out w3 (HB2.out.trans (HB3.out.mono HB2.out.size))).1;(first|(have hbx:w3.heap[W2.heap.size]? = some (.cells #[.nilIface,.string ⟨#[]⟩] 65 (0,0)):=(hb3.block W2.heap.size (by show _<(World.alloc _ _).heap.size;simp)).trans (heap_alloc_new W2 _))|skip);clear hb3)
   | (go_at_call 45;refine (HI.out _ (by first|exact HB3.out|exact HB3.out.alloc HB3.out.size _)).mono ?_;rintro e w4 ⟨v4,rfl,hn4,hb4⟩;obtain⟨t4,b4,rfl⟩:=hn4.some (put_ne (c i) _ y);(first|(have hby:w4.heap[w3.heap.size]? = some (.cells #[.nilIface,.string ⟨#[]⟩] 65 (0,0)):=(hb4.block w3.heap.size (by simp)).trans (heap_alloc_new w3 _);have y0:w4.cell? ⟨w3.heap.size,0,none⟩=some .nilIface:=cell_of_row w4 _ 0 _ _ (0,0) hby;have y1:w4.cell? ⟨w3.heap.size,1,none⟩=some (.string ⟨#[]⟩):=cell_of_row w4 _ 1 _ _ (0,0) hby;have f0:=frozen_of_row w4 w3.heap.size 0 _ _ hby;have f1:=frozen_of_row w4 w3.heap.size 1 _ _ hby)|(have hby:w4.heap[W2.heap.size]? = some (.cells #[.nilIface,.string ⟨#[]⟩] 65 (0,0)):=(hb4.block W2.heap.size (aGe.1 hbx).1).trans hbx;have y0:w4.cell? ⟨W2.heap.size,0,none⟩=some .nilIface:=cell_of_row w4 _ 0 _ _ (0,0) hby;have y1:w4.cell? ⟨W2.heap.size,1,none⟩=some (.string ⟨#[]⟩):=cell_of_row w4 _ 1 _ _ (0,0) hby;have f0:=frozen_of_row w4 W2.heap.size 0 _ _ hby;have f1:=frozen_of_row w4 W2.heap.size 1 _ _ hby)|skip);have HX4:=hide (And.intro hn4 hb4);clear hn4 hb4)))
  all_goals first
   | (have HG:=hide (PutBox.early (HOK2.out W2 HB2.out) HB3.out HX4.out.1 HX4.out.2 (Nat.le_refl _) (aGe.1 hbx).1 hby);have HF:=hide (HFin.out W2 _ _ t4 b4 HB2.out HSZ.out HCp.out.1 HG.out);have HZ:=hide (HFx.out W2 _ _ t4 b4 HB2.out HSZ.out HCp.out.1 HG.out);generalize World.setCell (World.setCell w4 _ _) _ _=X at *;clear HSZ;generalize W2.heap.size=R at *)
   | (have HG:=hide (PutBox.early (HOK2.out W2 HB2.out) (HB3.out.alloc HB3.out.size _) HX4.out.1 HX4.out.2 HB3.out.size (by simp) hby);have HF:=hide (HFin.out W2 _ _ t4 b4 HB2.out HSZ.out HCp.out.1 HG.out);have HZ:=hide (HFx.out W2 _ _ t4 b4 HB2.out HSZ.out HCp.out.1 HG.out);generalize World.setCell (World.setCell w4 _ _) _ _=X at *;generalize w3.heap.size=R at *)
   | (have HG:=hide (PutBox.last HB3.out HX4.out.1 HX4.out.2);have HF:=hide (HFin.out W2 _ _ t4 b4 HB2.out HSZ.out HCp.out.1 HG.out);have HZ:=hide (HFx.out W2 _ _ t4 b4 HB2.out HSZ.out HCp.out.1 HG.out);generalize World.alloc w4 _=X at *;generalize w4.heap.size=R at *)
  all_goals
   obtain⟨x0,x1⟩:=HG.out.cells
   obtain⟨z0,⟨za,z1⟩,⟨zb,z2⟩,z3,z4,_,_⟩:=HZ.out
   clear HX4 pc uc0 uc1 pca
   go_wp2_with fail
   go_region
  all_goals go_wp2
  all_goals go_ret2
  all_goals exact HF.out _ (by first|exact (drew_below _ _)|exact (Below.refl _ _).drew|exact Below.refl _ _)
 ·have hc1:¬(cap:Int)=1:=by omega
  have HI:=hide (fun W hW=>hiw (op+1) p.length (cap - 1) W hW hd1 rfl (by simp at hc;omega))
  have HI2:Hid (∀W2,Below w.heap.size w W2→∀W,Below W2.heap.size W2 W→Calls Tryz.prog 45 #[st,.agg #[us i,.string (hs i),.iface 252 (ptr b),.int .i64 ((dp:Int)+1)],.slice (some ⟨gp,op+1,none⟩) p.length (cap - 1),.string y] W fun e w' => RefPost Hk ok ((c i).put p y) W e w'):=fun W2 h2 W hW=>HI.out W (h2.trans (hW.mono h2.size))
  clear hcell hiw hfin hfx hb hch hp hok ih hd1 hpc HI hc
  unfold ptr at *
  go_enter Tryz.func238,Tryz.ntmps238
  go_wp2_with (first
   | (refine wpList_load_row rfl 285 (.tmp 16) rfl b rfl 285 (brCells us hs x) (0,0) _ HBk.out Tryz.underlying285 rfl (sizeBr us hs x) ?_)
   | (refine wpList_store_row rfl 285 (.tmp 12) (.tmp 17) rfl w.heap.size (brCells us hs x) rfl rfl 285 _ (heap_alloc_new w _) (sizeBr us hs x) (by rw[brCells_size];rfl) HOne.out ?_;generalize World.setRow _ _ _=W2 at *))
  have HI:=hide (HI2.out W2 HCp.out.2.1)
  clear HI2
  have HB2:Hid (Below w.heap.size w W2):=HCp.out.2.1
  have hsz2:W2.heap.size=w.heap.size+1:=HCp.out.2.2
  have HSZ:=hide hsz2
  clear hsz2
  obtain⟨pc,uc0,uc1⟩:=HC.out W2 HB2.out
  have pca:∀o,(W2.alloc o).cell? ⟨gp,op,none⟩=some (.int .i64 (i:Int)):=fun o=>(HC.out _ (HB2.out.alloc HB2.out.size o)).1
  go_region_with ((first
   | (go_at_call 241;refine (HU.out _ (by first|exact HB2.out.drew|exact (HB2.out.drew).alloc HB2.out.size _|exact (HB2.out.alloc HB2.out.size _).drew)).mono ?_;rintro e w3 ⟨rfl,hb3⟩;have HB3:Hid (Below W2.heap.size W2 w3):=(by first|exact (Below.refl _ _).drew.trans hb3|exact ((below_alloc W2 _).drew).trans (hb3.mono (by show _≤(World.alloc _ _).heap.size;simp)));have pc3:=(HC.out w3 (HB2.out.trans (HB3.out.mono HB2.out.size))).1;(first|(have hbx:w3.heap[W2.heap.size]? = some (.cells #[.nilIface,.string ⟨#[]⟩] 65 (0,0)):=(hb3.block W2.heap.size (by show _<(World.alloc _ _).heap.size;simp)).trans (heap_alloc_new W2 _))|skip);clear hb3)
   | (go_at_call 45;refine (HI.out _ (by first|exact HB3.out|exact HB3.out.alloc HB3.out.size _)).mono ?_;rintro e w4 ⟨v4,rfl,hn4,hb4⟩;obtain⟨t4,b4,rfl⟩:=hn4.some (put_ne (c i) _ y);(first|(have hby:w4.heap[w3.heap.size]? = some (.cells #[.nilIface,.string ⟨#[]⟩] 65 (0,0)):=(hb4.block w3.heap.size (by simp)).trans (heap_alloc_new w3 _);have y0:w4.cell? ⟨w3.heap.size,0,none⟩=some .nilIface:=cell_of_row w4 _ 0 _ _ (0,0) hby;have y1:w4.cell? ⟨w3.heap.size,1,none⟩=some (.string ⟨#[]⟩):=cell_of_row w4 _ 1 _ _ (0,0) hby;have f0:=frozen_of_row w4 w3.heap.size 0 _ _ hby;have f1:=frozen_of_row w4 w3.heap.size 1 _ _ hby)|(have hby:w4.heap[W2.heap.size]? = some (.cells #[.nilIface,.string ⟨#[]⟩] 65 (0,0)):=(hb4.block W2.heap.size (aGe.1 hbx).1).trans hbx;have y0:w4.cell? ⟨W2.heap.size,0,none⟩=some .nilIface:=cell_of_row w4 _ 0 _ _ (0,0) hby;have y1:w4.cell? ⟨W2.heap.size,1,none⟩=some (.string ⟨#[]⟩):=cell_of_row w4 _ 1 _ _ (0,0) hby;have f0:=frozen_of_row w4 W2.heap.size 0 _ _ hby;have f1:=frozen_of_row w4 W2.heap.size 1 _ _ hby)|skip);have HX4:=hide (And.intro hn4 hb4);clear hn4 hb4)))
  all_goals first
   | (have HG:=hide (PutBox.early (HOK2.out W2 HB2.out) HB3.out HX4.out.1 HX4.out.2 (Nat.le_refl _) (aGe.1 hbx).1 hby);have HF:=hide (HFin.out W2 _ _ t4 b4 HB2.out HSZ.out HCp.out.1 HG.out);have HZ:=hide (HFx.out W2 _ _ t4 b4 HB2.out HSZ.out HCp.out.1 HG.out);generalize World.setCell (World.setCell w4 _ _) _ _=X at *;clear HSZ;generalize W2.heap.size=R at *)
   | (have HG:=hide (PutBox.early (HOK2.out W2 HB2.out) (HB3.out.alloc HB3.out.size _) HX4.out.1 HX4.out.2 HB3.out.size (by simp) hby);have HF:=hide (HFin.out W2 _ _ t4 b4 HB2.out HSZ.out HCp.out.1 HG.out);have HZ:=hide (HFx.out W2 _ _ t4 b4 HB2.out HSZ.out HCp.out.1 HG.out);generalize World.setCell (World.setCell w4 _ _) _ _=X at *;generalize w3.heap.size=R at *)
   | (have HG:=hide (PutBox.last HB3.out HX4.out.1 HX4.out.2);have HF:=hide (HFin.out W2 _ _ t4 b4 HB2.out HSZ.out HCp.out.1 HG.out);have HZ:=hide (HFx.out W2 _ _ t4 b4 HB2.out HSZ.out HCp.out.1 HG.out);generalize World.alloc w4 _=X at *;generalize w4.heap.size=R at *)
  all_goals
   obtain⟨x0,x1⟩:=HG.out.cells
   obtain⟨z0,⟨za,z1⟩,⟨zb,z2⟩,z3,z4,_,_⟩:=HZ.out
   clear HX4 pc uc0 uc1 pca
   go_wp2_with fail
   go_region
  all_goals go_wp2
  all_goals go_ret2
  all_goals exact HF.out _ (by first|exact (drew_below _ _)|exact (Below.refl _ _).drew|exact Below.refl _ _)
end Go.Proofs.YthdjmldddjljfaaGreatDoor
namespace Go.Proofs.YthdjmldddjljfaaGreatDoor
open Go.RowKit
def Nd.Len:Nd→Nat→Prop
 | .nil=>fun _=>True
 | .leaf q _=>fun L=>q.length≤L
 | .ext q m=>fun L=>q.length≤L∧m.Len (L - q.length)
 | .br c _=>fun L=>1≤L∧∀i,(c i).Len (L - 1)
theorem sPut_all (Hk:Nd→ByteArray→Prop)(hnn:∀n g,Hk n g→n≠.nil):∀(n:Nd) (L:Nat),n.WF→n.Len L→L≤400→SPutOk Hk L n
 | .nil,L,_,_,hL=>by
   intro ok u h st ab dp gp op cap p y w _ hn hh hp hc hpl hd _
   obtain rfl:u=.nilIface:=hn
   obtain rfl:h=e0:=hh.elim id (fun h=>absurd rfl h)
   exact sPut_nil Hk ok st ab dp gp op cap p y w hp hc (by omega)
 | .leaf q x,L,hw,hl,hL=>by
   intro ok u h st ab dp gp op cap p y w hok hn _ hp hc hpl hd hp16
   have hn' := hn
   obtain⟨b,_,_,rfl,_⟩:=hn'
   have hql:q.length≤L:=hl
   exact sPut_leaf Hk ok (.leaf q x) b h st ab dp gp op cap p y w hok hn (fun W hW hb=>leafPut_any Hk ok b st dp gp op cap p q x y W hW (hp.keep hb (Nat.le_refl _)) hc (by omega) (by omega) hp16 hw.2)
 | .ext q m,L,hw,hl,hL=>by
   intro ok u h st ab dp gp op cap p y w hok hn _ hp hc hpl hd hp16
   have hn' := hn
   obtain⟨b,_,_,_,_,rfl,_⟩:=hn'
   obtain⟨w1,w2,w3,w4⟩:=hw
   obtain⟨l1,l2⟩:=hl
   have hm:m≠.nil:=fun e=>by rw[e] at w3;cases w3
   refine sPut_ext Hk ok (.ext q m) b h st ab dp gp op cap p y w hok hn (fun W hW hb=>?_)
   have hok' : ∀k,ok k→k<W.heap.size:=fun k hk=>Nat.lt_of_lt_of_le (hok k hk) hb.size
   by_cases hs:shared q p=q.length
   ·exact extPut_in Hk L ok b st dp gp op cap p q m y W hok' hW hm (hp.keep hb (Nat.le_refl _)) hc hpl hL l1 hd hp16 hs (sPut_all Hk hnn m (L - q.length) w4 l2 (by omega))
   ·have:=shared_le_left q p
    exact extPut_fork Hk hnn ok b st dp gp op cap p q m y W hok' hW hm (hp.keep hb (Nat.le_refl _)) hc (by omega) (by omega) hp16 w2 (by omega)
 | .br c x,L,hw,hl,hL=>by
   intro ok u h st ab dp gp op cap p y w hok hn _ hp hc hpl hd hp16
   have hn' := hn
   obtain⟨b,_,_,rfl,_⟩:=hn'
   obtain⟨w1,w2,w3⟩:=hw
   obtain⟨l1,l2⟩:=hl
   refine sPut_br Hk ok (.br c x) b h st ab dp gp op cap p y w hok hn (fun W hW hb=>?_)
   have hok' : ∀k,ok k→k<W.heap.size:=fun k hk=>Nat.lt_of_lt_of_le (hok k hk) hb.size
   cases p with
   | nil=>exact brPut_nil Hk ok b st dp _ cap c x y W hok' hW
   | cons i p=>exact brPut_cons Hk L ok b st dp gp op cap i p c x y W hok' hW (hp.keep hb (Nat.le_refl _)) hc hpl hL hd hp16 (sPut_all Hk hnn (c i) (L - 1) (w1 i) (l2 i) (by omega))
theorem ahead_Len {p:List Nat}{n:Nd}{L:Nat}(hp:p.length≤L)(hn:n.Len (L - p.length))(hne:n≠.nil):(n.ahead p).Len L:=by
 cases n with
 | nil=>exact absurd rfl hne
 | leaf q v =>
   simp only[Nd.Len] at hn
   simp only[Nd.ahead,Nd.Len,List.length_append]
   omega
 | ext q m =>
   obtain⟨h1,h2⟩:=hn
   refine⟨by rw[List.length_append];omega,?_⟩
   rw[List.length_append,←Nat.sub_sub]
   exact h2
 | br c v =>
   simp only[Nd.ahead]
   split
   ·rename_i h;subst h;simpa using hn
   ·exact⟨hp,hn⟩
theorem hang_Len {c:Nat→Nd}{v:ByteArray}{L:Nat}(hL:1≤L)(hc:∀i,(c i).Len (L - 1))(p:List Nat)(x:ByteArray)(hp:p.length≤L):((Nd.br c v).hang p x).Len L:=by
 cases p with
 | nil=>exact⟨hL,hc⟩
 | cons i p =>
   refine⟨hL,fun j=>?_⟩
   unfold upd
   split
   ·simp only[Nd.Len];simp at hp;omega
   ·exact hc j
theorem hang_Len2 {n:Nd}{L:Nat}(hb:n.isBr=true)(hn:n.Len L)(p:List Nat)(x:ByteArray)(hp:p.length≤L):(n.hang p x).Len L:=by
 cases n with
 | br c v=>exact hang_Len hn.1 hn.2 p x hp
 | nil=>cases hb
 | leaf _ _=>cases hb
 | ext _ _=>cases hb
theorem nil_of_br {n:Nd}(h:n.isBr=true):n≠.nil:=fun e=>by rw[e] at h;cases h
theorem put_Len:∀(n:Nd) (p:List Nat) (v:ByteArray) (L:Nat),n.Len L→p.length≤L→(n.put p v).Len L
 | .nil,p,v,L,_,hp=>by simp only[Nd.put,Nd.Len];exact hp
 | .leaf q u,p,v,L,hn,hp=>by
   simp only[Nd.Len] at hn
   simp only[Nd.put]
   by_cases h:q=p
   ·rw[if_pos h];exact hp
   ·rw[if_neg h]
    have hl:=shared_le_left q p
    have hr:=shared_le_right q p
    have ht:=shared_take q p
    have hlt:shared q p<L:=by
     rcases Nat.lt_or_ge (shared q p) L with h1|h1
     ·exact h1
     ·exfalso
      apply h
      rw[List.take_of_length_le (by omega),List.take_of_length_le (by omega)] at ht
      exact ht
    generalize shared q p=k at *
    have h0:(emptyBr).Len (L - k):=⟨by omega,fun _=>trivial⟩
    have h1:=hang_Len2 (n:=emptyBr) rfl h0 (q.drop k) u (by rw[List.length_drop];omega)
    have h2:=hang_Len2 (hang_br _ rfl _ _) h1 (p.drop k) v (by rw[List.length_drop];omega)
    refine ahead_Len (by rw[List.length_take];omega) ?_ (nil_of_br (hang_br _ (hang_br _ rfl _ _) _ _))
    rw[List.length_take,Nat.min_eq_left hr]
    exact h2
 | .ext q m,p,v,L,hn,hp=>by
   obtain⟨n1,n2⟩:=hn
   simp only[Nd.put]
   by_cases h:shared q p=q.length
   ·rw[if_pos h]
    exact⟨n1,put_Len m _ v _ n2 (by rw[List.length_drop,h];omega)⟩
   ·rw[if_neg h]
    have hl:=shared_le_left q p
    have hr:=shared_le_right q p
    generalize shared q p=k at *
    have hb:(behind q m (k+1)).Len (L - k - 1):=by
     unfold behind
     split
     ·rename_i e
      rw[show L - k - 1=L - q.length from by omega]
      exact n2
     ·refine⟨by rw[List.length_drop];omega,?_⟩
      rw[List.length_drop,show L - k - 1 - (q.length - (k+1))=L - q.length from by omega]
      exact n2
    have h0:(Nd.br (upd (fun _=>.nil) (q.getD k 0) (behind q m (k+1))) e0).Len (L - k):=⟨by omega,fun j=>by
     unfold upd;split
     ·exact hb
     ·trivial⟩
    have h2:=hang_Len2 rfl h0 (p.drop k) v (by rw[List.length_drop];omega)
    refine ahead_Len (by rw[List.length_take];omega) ?_ (nil_of_br (hang_br _ rfl _ _))
    rw[List.length_take,Nat.min_eq_left hr]
    exact h2
 | .br c u,p,v,L,hn,hp=>by
   cases p with
   | nil=>simp only[Nd.put];exact hn
   | cons i p =>
     simp only[Nd.put]
     refine⟨hn.1,fun j=>?_⟩
     unfold upd
     split
     ·exact put_Len (c i) p v _ (hn.2 i) (by simp at hp;omega)
     ·exact hn.2 j
end Go.Proofs.YthdjmldddjljfaaGreatDoor
namespace Go.Proofs.YthdjmldddjljfaaGreatDoor
open Go.RowKit
attribute [local go_sem ↓] Go.wp_at_zero Go.wp_at_succ
theorem plen_le {n:Nd}{L:Nat}(h:n.Len L):n.plen≤L:=by
 cases n with
 | nil=>exact Nat.zero_le _
 | leaf q v=>exact h
 | ext q m=>exact h.1
 | br c v=>exact Nat.zero_le _
theorem settle_Len {c:Nat→Nd}{v:ByteArray}{L:Nat}(hL:1≤L)(hc:∀i,(c i).Len (L - 1)):(settle c v).Len L:=by
 rcases settle_cases c v with⟨_,h⟩|⟨_,_,h⟩|⟨_,k,h1,h⟩|⟨_,_,h⟩
 ·rw[h];exact⟨hL,hc⟩
 ·rw[h];exact Nat.zero_le _
 ·rw[h]
  have hk:k∈full c:=by rw[h1];simp
  exact ahead_Len (by simpa using hL) (by simpa using hc k) ((full_mem c k).1 hk).2
 ·rw[h];trivial
theorem remove_Len:∀(n:Nd) (p:List Nat) (L:Nat),n.WF→(∀x∈p,x<16)→n.Len L→(n.remove p).Len L
 | .nil,_,_,_,_,_=>by simp[Nd.remove,Nd.Len]
 | .leaf _ _,_,_,_,_,_=>by simp[Nd.remove,Nd.Len]
 | .ext q m,p,L,hw,hp,hl=>by
   obtain⟨w1,w2,w3,w4⟩:=hw
   simp only[Nd.remove]
   have hd:∀x∈p.drop q.length,x<16:=fun x hx=>hp x (List.mem_of_mem_drop hx)
   exact ahead_Len hl.1 (remove_Len m _ _ w4 hd hl.2) (remove_br_ne w4 w3 hd)
 | .br c v,p,L,hw,hp,hl=>by
   obtain⟨w1,w2,w3⟩:=hw
   cases p with
   | nil=>simp only[Nd.remove];exact settle_Len hl.1 hl.2
   | cons i p =>
     simp only[Nd.remove]
     refine settle_Len hl.1 (fun j=>?_)
     unfold upd
     split
     ·exact remove_Len (c i) p _ (w1 i) (fun x hx=>hp x (List.mem_cons_of_mem _ hx)) (hl.2 i)
     ·exact hl.2 j
def SRemOk (Hk:Nd→ByteArray→Prop)(L:Nat)(m:Nd):Prop:=∀(ok:Nat→Prop) (u:Value) (h:ByteArray) (st ab:Value) (dp gp op cap:Nat) (p:List Nat) (w:World),(∀k,ok k→k<w.heap.size)→NdAt Hk ok w m u→Nums w (some ⟨gp,op,none⟩) p→p.length≤cap→p.length≤L→dp+L≤10000→(∀i∈p,i<16)→(m.look p).size≠0 →
 Calls Tryz.prog 79 #[st,.agg #[u,.string h,ab,.int .i64 (dp:Int)],.slice (some ⟨gp,op,none⟩) p.length cap] w fun e w' => PutPost Hk ok (m.remove p) w e w'
theorem meth_rem_leaf (b : Nat) (w : World) : (method 438 153 (ptr b) "canopy/tree.remove").run Tryz.prog w = .ok (208, ptr b) w := by kernel_rfl
theorem sRem_leaf (Hk:Nd→ByteArray→Prop)(ok:Nat→Prop)(n:Nd)(b:Nat)(h:ByteArray)(st ab:Value)(dp:Int)(gp op cap:Nat)(p:List Nat)(w:World)(hn:NdAt Hk ok w n (.iface 153 (ptr b)))
  (hrem:∀W,NdAt Hk ok W n (.iface 153 (ptr b))→Below w.heap.size w W→Calls Tryz.prog 208 #[ptr b,st,.int .i64 dp,.slice (some ⟨gp,op,none⟩) p.length cap] W fun e w' => PutPost Hk ok (n.remove p) W e w') :
  Calls Tryz.prog 79 #[st,.agg #[.iface 153 (ptr b),.string h,ab,.int .i64 dp],.slice (some ⟨gp,op,none⟩) p.length cap] w fun e w' => PutPost Hk ok (n.remove p) w e w' := by
 have HN:=hide hn
 have HRe:=hide hrem
 have HR0:=hide (heap_alloc_new w (.cells #[.iface 153 (ptr b),.string h,ab,.int .i64 dp] 110))
 have HB0:=hide (below_alloc w (.cells #[.iface 153 (ptr b),.string h,ab,.int .i64 dp] 110))
 clear hn hrem
 have hme:=meth_rem_leaf
 unfold ptr at *
 go_enter Tryz.func79,Tryz.ntmps79
 go_wp2_with (first
  | (refine wpList_load_row rfl 110 (.tmp 4) rfl w.heap.size rfl 110 _ (0,0) _ HR0.out Tryz.underlying110 rfl (by kernel_rfl) ?_)
  | fail)
 generalize World.alloc w _=W2 at *
 refine (read_any st 153 b h ab dp W2).mono ?_
 rintro e w3 ⟨rfl,hb3⟩
 have hr3:=(hb3.block w.heap.size (aGe.1 HR0.out).1).trans HR0.out
 have z3:w3.cell? ⟨w.heap.size,3,none⟩=some (.int .i64 dp):=cell_of_row w3 _ 3 _ _ (0,0) hr3
 have HB3:Hid (Below w.heap.size w w3):=HB0.out.trans (hb3.mono HB0.out.size)
 clear hb3 hr3
 go_wp2_with fail
 refine (HRe.out w3 (HN.out.keep HB3.out) HB3.out).mono ?_
 rintro e w4 ⟨v4,rfl,hn4,hb4⟩
 have HX:=hide (And.intro hn4 hb4)
 clear hn4 hb4
 go_wp2
 go_ret2
 exact⟨v4,rfl,NdAt.mono (fun k hk=>hk.imp id (fun h=>Nat.le_trans HB3.out.size h)) _ _ HX.out.1,HB3.out.trans (HX.out.2.mono HB3.out.size)⟩
theorem meth_rem_ext (b : Nat) (w : World) : (method 438 250 (ptr b) "canopy/tree.remove").run Tryz.prog w = .ok (232, ptr b) w := by kernel_rfl
theorem sRem_ext (Hk:Nd→ByteArray→Prop)(ok:Nat→Prop)(n:Nd)(b:Nat)(h:ByteArray)(st ab:Value)(dp:Int)(gp op cap:Nat)(p:List Nat)(w:World)(hn:NdAt Hk ok w n (.iface 250 (ptr b)))
  (hrem:∀W,NdAt Hk ok W n (.iface 250 (ptr b))→Below w.heap.size w W→Calls Tryz.prog 232 #[ptr b,st,.int .i64 dp,.slice (some ⟨gp,op,none⟩) p.length cap] W fun e w' => PutPost Hk ok (n.remove p) W e w') :
  Calls Tryz.prog 79 #[st,.agg #[.iface 250 (ptr b),.string h,ab,.int .i64 dp],.slice (some ⟨gp,op,none⟩) p.length cap] w fun e w' => PutPost Hk ok (n.remove p) w e w' := by
 have HN:=hide hn
 have HRe:=hide hrem
 have HR0:=hide (heap_alloc_new w (.cells #[.iface 250 (ptr b),.string h,ab,.int .i64 dp] 110))
 have HB0:=hide (below_alloc w (.cells #[.iface 250 (ptr b),.string h,ab,.int .i64 dp] 110))
 clear hn hrem
 have hme:=meth_rem_ext
 unfold ptr at *
 go_enter Tryz.func79,Tryz.ntmps79
 go_wp2_with (first
  | (refine wpList_load_row rfl 110 (.tmp 4) rfl w.heap.size rfl 110 _ (0,0) _ HR0.out Tryz.underlying110 rfl (by kernel_rfl) ?_)
  | fail)
 generalize World.alloc w _=W2 at *
 refine (read_any st 250 b h ab dp W2).mono ?_
 rintro e w3 ⟨rfl,hb3⟩
 have hr3:=(hb3.block w.heap.size (aGe.1 HR0.out).1).trans HR0.out
 have z3:w3.cell? ⟨w.heap.size,3,none⟩=some (.int .i64 dp):=cell_of_row w3 _ 3 _ _ (0,0) hr3
 have HB3:Hid (Below w.heap.size w w3):=HB0.out.trans (hb3.mono HB0.out.size)
 clear hb3 hr3
 go_wp2_with fail
 refine (HRe.out w3 (HN.out.keep HB3.out) HB3.out).mono ?_
 rintro e w4 ⟨v4,rfl,hn4,hb4⟩
 have HX:=hide (And.intro hn4 hb4)
 clear hn4 hb4
 go_wp2
 go_ret2
 exact⟨v4,rfl,NdAt.mono (fun k hk=>hk.imp id (fun h=>Nat.le_trans HB3.out.size h)) _ _ HX.out.1,HB3.out.trans (HX.out.2.mono HB3.out.size)⟩
theorem meth_rem_br (b : Nat) (w : World) : (method 438 252 (ptr b) "canopy/tree.remove").run Tryz.prog w = .ok (239, ptr b) w := by kernel_rfl
theorem sRem_br (Hk:Nd→ByteArray→Prop)(ok:Nat→Prop)(n:Nd)(b:Nat)(h:ByteArray)(st ab:Value)(dp:Int)(gp op cap:Nat)(p:List Nat)(w:World)(hn:NdAt Hk ok w n (.iface 252 (ptr b)))
  (hrem:∀W,NdAt Hk ok W n (.iface 252 (ptr b))→Below w.heap.size w W→Calls Tryz.prog 239 #[ptr b,st,.int .i64 dp,.slice (some ⟨gp,op,none⟩) p.length cap] W fun e w' => PutPost Hk ok (n.remove p) W e w') :
  Calls Tryz.prog 79 #[st,.agg #[.iface 252 (ptr b),.string h,ab,.int .i64 dp],.slice (some ⟨gp,op,none⟩) p.length cap] w fun e w' => PutPost Hk ok (n.remove p) w e w' := by
 have HN:=hide hn
 have HRe:=hide hrem
 have HR0:=hide (heap_alloc_new w (.cells #[.iface 252 (ptr b),.string h,ab,.int .i64 dp] 110))
 have HB0:=hide (below_alloc w (.cells #[.iface 252 (ptr b),.string h,ab,.int .i64 dp] 110))
 clear hn hrem
 have hme:=meth_rem_br
 unfold ptr at *
 go_enter Tryz.func79,Tryz.ntmps79
 go_wp2_with (first
  | (refine wpList_load_row rfl 110 (.tmp 4) rfl w.heap.size rfl 110 _ (0,0) _ HR0.out Tryz.underlying110 rfl (by kernel_rfl) ?_)
  | fail)
 generalize World.alloc w _=W2 at *
 refine (read_any st 252 b h ab dp W2).mono ?_
 rintro e w3 ⟨rfl,hb3⟩
 have hr3:=(hb3.block w.heap.size (aGe.1 HR0.out).1).trans HR0.out
 have z3:w3.cell? ⟨w.heap.size,3,none⟩=some (.int .i64 dp):=cell_of_row w3 _ 3 _ _ (0,0) hr3
 have HB3:Hid (Below w.heap.size w w3):=HB0.out.trans (hb3.mono HB0.out.size)
 clear hb3 hr3
 go_wp2_with fail
 refine (HRe.out w3 (HN.out.keep HB3.out) HB3.out).mono ?_
 rintro e w4 ⟨v4,rfl,hn4,hb4⟩
 have HX:=hide (And.intro hn4 hb4)
 clear hn4 hb4
 go_wp2
 go_ret2
 exact⟨v4,rfl,NdAt.mono (fun k hk=>hk.imp id (fun h=>Nat.le_trans HB3.out.size h)) _ _ HX.out.1,HB3.out.trans (HX.out.2.mono HB3.out.size)⟩
theorem leafRem_any (Hk:Nd→ByteArray→Prop)(ok:Nat→Prop)(b:Nat)(st:Value)(dp:Int)(pv:Value)(p q:List Nat)(x:ByteArray)(w:World) :
  Calls Tryz.prog 208 #[ptr b,st,.int .i64 dp,pv] w fun e w' => PutPost Hk ok ((Nd.leaf q x).remove p) w e w' := by
 have HPT:Hid ((Nd.leaf q x).remove p=.nil):=by show _=_;simp[Nd.remove]
 unfold ptr
 go_enter Tryz.func208,Tryz.ntmps208
 go_wp2
 go_ret2
 exact⟨_,rfl,by rw[HPT.out];rfl,Below.refl _ _⟩
theorem extRem_any (Hk:Nd→ByteArray→Prop)(L:Nat)(ok:Nat→Prop)(b:Nat)(st:Value)(dp gp op cap:Nat)(p q:List Nat)(m:Nd)(w:World)(hok:∀k,ok k→k<w.heap.size)(hn:NdAt Hk ok w (.ext q m) (.iface 250 (ptr b)))(hw:(Nd.ext q m).WF)(hlen:(Nd.ext q m).Len L)(hp:Nums w (some ⟨gp,op,none⟩) p)(hc:p.length≤cap)(hpl:p.length≤L)(hL:L≤400)(hd:dp+L≤10000)(hp16:∀i∈p,i<16)(hlk:((Nd.ext q m).look p).size≠0)(ih:SRemOk Hk (L - q.length) m) :
  Calls Tryz.prog 232 #[ptr b,st,.int .i64 (dp:Int),.slice (some ⟨gp,op,none⟩) p.length cap] w fun e w' => PutPost Hk ok ((Nd.ext q m).remove p) w e w' := by
 have HPT:Hid ((Nd.ext q m).remove p=(m.remove (p.drop q.length)).ahead q):=by show _=_;simp[Nd.remove]
 obtain⟨b', bo,bc,u,h,hb', o1,o2,hb,hq,hb0,hbc,hmn,hmh⟩:=hn
 obtain rfl:b=b' := by simpa[ptr] using hb'
 obtain⟨w1,w2,w3,w4⟩:=hw
 obtain⟨l1,l2⟩:=hlen
 have hm:m≠.nil:=nil_of_br w3
 obtain⟨t,ub,rfl⟩:=hmn.some hm
 have hbl:=(aGe.1 hb).1
 have hpre:=look_ext_pre hlk
 have hql:q.length≤p.length:=hpre.length_le
 have hlk2:(m.look (p.drop q.length)).size≠0:=by
  obtain⟨s,rfl⟩:=hpre
  rw[look_ext_app] at hlk
  rw[List.drop_left];exact hlk
 have hd16:∀i∈p.drop q.length,i<16:=fun i hi=>hp16 i (List.mem_of_mem_drop hi)
 have hne:=remove_br_ne w4 w3 hd16
 have hcell:∀W,Below w.heap.size w W→W.cell? ⟨b,0,none⟩=some (.slice bo q.length bc):=fun W hW=>(hW.cell (p:=⟨b,0,none⟩) hbl).trans (cell_of_row w b 0 _ _ (0,0) hb)
 have HC:=hide hcell
 have c0:=hcell w (Below.refl _ _)
 have HU:Hid (∀W,Below w.heap.size w W→Calls Tryz.prog 235 #[ptr b,.int .i64 (dp:Int)] W fun e w' => e=.returned (.agg #[.iface t (ptr ub),.string h,.iface 250 (ptr b),.int .i64 ((dp:Int)+(q.length:Int))])∧Below W.heap.size W w') :=
  fun W hW=>by
   have h1:=extUnder_any b bo q.length bc t ub h dp W ((hW.block b hbl).trans hb) (by omega) (by omega)
   rw[Int.natCast_add] at h1
   exact h1
 have hiw:∀(a l c:Nat) W,Below w.heap.size w W→Nums w (some ⟨gp,a,none⟩) (p.drop q.length)→l=p.length - q.length→l≤c→Calls Tryz.prog 79 #[st,.agg #[.iface t (ptr ub),.string h,.iface 250 (ptr b),.int .i64 ((dp:Int)+(q.length:Int))],.slice (some ⟨gp,a,none⟩) l c] W fun e w' => ∃t4 b4,e=.returned (.tuple #[.iface t4 (ptr b4),.int .i64 0])∧NdAt Hk (fun k=>ok k∨w.heap.size≤k) w' (m.remove (p.drop q.length)) (.iface t4 (ptr b4))∧Below w.heap.size w w' := by
  intro a l c W hW hnu hl hlc
  subst hl
  have h1:=ih ok (.iface t (ptr ub)) h st (.iface 250 (ptr b)) (dp+q.length) gp a c (p.drop q.length) W (fun k hk=>Nat.lt_of_lt_of_le (hok k hk) hW.size) (hmn.keep hW) (hnu.keep hW (Nat.le_refl _)) (by rw[List.length_drop];exact hlc) (by rw[List.length_drop];omega) (by omega) hd16 hlk2
  rw[List.length_drop,Int.natCast_add] at h1
  refine h1.mono ?_
  rintro e w' ⟨v', rfl,h2,h3⟩
  obtain⟨t4,b4,rfl⟩:=h2.some hne
  exact⟨t4,b4,rfl,NdAt.mono (fun k hk=>hk.imp id (fun h=>Nat.le_trans hW.size h)) _ _ h2,hW.trans (h3.mono hW.size)⟩
 have HAh:Hid (∀(W:World) (t4 b4:Nat),NdAt Hk (fun k=>ok k∨w.heap.size≤k) W (m.remove (p.drop q.length)) (.iface t4 (ptr b4))→Below w.heap.size w W→Calls Tryz.prog 216 #[.slice bo q.length bc,.agg #[.iface t4 (ptr b4),.string ⟨#[]⟩],.iface t4 (ptr b4)] W fun e w' => ∃v', e=.returned v' ∧ NdAt Hk (fun k=>ok k∨w.heap.size≤k) w' ((Nd.ext q m).remove p) v' ∧ Below w.heap.size w w'):=by
  intro W t4 b4 hn4 hW
  have h1:=ahead_any Hk bo bc q (m.remove (p.drop q.length)) e0 _ _ W (hq.keep hW (Nat.le_refl _)) hb0 hbc (by have:=plen_le (remove_Len m _ _ w4 hd16 l2);omega) hne hn4 (.inl rfl)
  refine h1.mono ?_
  rintro e w' ⟨v', rfl,h2,h3⟩
  refine⟨v', rfl,?_,hW.trans (h3.mono hW.size)⟩
  rw[HPT.out]
  refine NdAt.mono (fun k hk=>?_) _ _ h2
  rcases hk with (hk|hk)|hk
  ·exact .inl hk
  ·exact .inr hk
  ·exact .inr (Nat.le_trans hW.size hk)
 have qI1:(q.length:Int)≤(p.length:Int):=by omega
 have pI1:(p.length:Int)≤(cap:Int):=by omega
 have q0:(0:Int)≤(q.length:Int):=by omega
 by_cases hcq:cap=q.length
 ·obtain rfl:q=p:=hpre.eq_of_length (by omega)
  obtain rfl:cap=q.length:=hcq
  have HI:=hide (fun W hW=>hiw op 0 0 W hW (by rw[List.drop_length];exact Nums.nil (fun a e=>by injection e with e;rw[←e])) (by omega) (by omega))
  clear hiw hcell hok hb hq hb0 hbc hmn hmh hp ih hlk hlk2 hpre
  unfold ptr at *
  go_enter Tryz.func232,Tryz.ntmps232
  go_wp2_with fail
  go_region_with ((first
   | (go_at_call 235;refine (HU.out _ (by first|exact (Below.refl _ _).drew|exact Below.refl _ _)).mono ?_;rintro e w2 ⟨rfl,hb2⟩;have HB2:Hid (Below w.heap.size w w2):=(by first|exact (Below.refl _ _).drew.trans hb2|exact hb2);have d2:=HC.out w2 HB2.out;clear hb2)
   | (go_at_call 79;refine (HI.out _ HB2.out).mono ?_;rintro e w4 ⟨t4,b4,rfl,hn4,hb4⟩;have HX4:=hide (And.intro hn4 hb4);clear hn4 hb4)))
  all_goals
   have d4:=HC.out w4 HX4.out.2
   go_wp2_with fail
   refine (HAh.out w4 t4 b4 HX4.out.1 HX4.out.2).mono ?_
   rintro e w5 ⟨v5,rfl,hn5,hb5⟩
   have HX5:=hide (And.intro hn5 hb5)
   clear hn5 hb5
   go_wp2
   go_ret2
   exact⟨v5,rfl,HX5.out.1,HX5.out.2⟩
 ·have HI:=hide (fun W hW=>hiw (op+q.length) (p.length - q.length) (cap - q.length) W hW (hp.drop q.length) rfl (by omega))
  have cI:(q.length:Int)<(cap:Int):=by omega
  clear hiw hcell hok hb hq hb0 hbc hmn hmh hp ih hlk hlk2 hpre
  unfold ptr at *
  go_enter Tryz.func232,Tryz.ntmps232
  go_wp2_with fail
  go_region_with ((first
   | (go_at_call 235;refine (HU.out _ (by first|exact (Below.refl _ _).drew|exact Below.refl _ _)).mono ?_;rintro e w2 ⟨rfl,hb2⟩;have HB2:Hid (Below w.heap.size w w2):=(by first|exact (Below.refl _ _).drew.trans hb2|exact hb2);have d2:=HC.out w2 HB2.out;clear hb2)
   | (go_at_call 79;refine (HI.out _ HB2.out).mono ?_;rintro e w4 ⟨t4,b4,rfl,hn4,hb4⟩;have HX4:=hide (And.intro hn4 hb4);clear hn4 hb4)))
  all_goals
   have d4:=HC.out w4 HX4.out.2
   go_wp2_with fail
   refine (HAh.out w4 t4 b4 HX4.out.1 HX4.out.2).mono ?_
   rintro e w5 ⟨v5,rfl,hn5,hb5⟩
   have HX5:=hide (And.intro hn5 hb5)
   clear hn5 hb5
   go_wp2
   go_ret2
   exact⟨v5,rfl,HX5.out.1,HX5.out.2⟩
end Go.Proofs.YthdjmldddjljfaaGreatDoor
