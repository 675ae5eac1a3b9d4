/-
  OUR OWN.
-/
import Derived.Test.YthdjmldddjljfaaGreatDoorG36
import Derived.Test.YthdjmldddjljfaaGreatDoorG41
set_option maxHeartbeats 8000000
set_option maxRecDepth 20000
namespace Go.Proofs.YthdjmldddjljfaaGreatDoor
open Go.RowKit Go.Shelf
attribute [local go_sem] Oper.semAt_some
structure PathBox (W:World)(b:Nat)(ao:Option Addr)(cap:Nat)(p:List Nat):Prop where
 box:W.heap[b]? = some (.cells #[.slice ao p.length cap] 80 (0,0))
 nums:Nums W ao p
 nil:ao=none→cap=0
 cap:p.length≤cap
theorem PathBox.keep {W W' : World}{b:Nat}{ao:Option Addr}{cap:Nat}{p:List Nat}(h:PathBox W b ao cap p)(hk:KpP W W'):PathBox W' b ao cap p:=⟨hk.same _ _ _ _ h.box (by decide) (by decide),h.nums.keepP hk,h.nil,h.cap⟩
theorem PathBox.cell {W:World}{b:Nat}{ao:Option Addr}{cap:Nat}{p:List Nat}(h:PathBox W b ao cap p):W.cell? ⟨b,0,none⟩=some (.slice ao p.length cap):=cell_of_row W _ 0 _ _ (0,0) h.box
def valPairs (q:List Nat)(k x:ByteArray):List (ByteArray×ByteArray):=if cmpL (pathN k) q<0 then [] else [(k,x)]
set_option maxRecDepth 100000 in
theorem pairsOfV_tells (bP bF bx:Nat)(ao bo:Option Addr)(ca cb:Nat)(q:List Nat)(k x:ByteArray)(v1 v3 v4:Value)(W0:World)(hp:PathBox W0 bP ao ca (pathN k))(hq:PathBox W0 bF bo cb q)(hx:W0.heap[bx]? = some (.cells #[v1,.string x,v3,v4] 191 (0,0)))(hk:k.size≤65)(hql:q.length≤1000)(hxs:x.size≤400) :
  TellsPairs (valPairs q k x) 151 #[.pointer (some ⟨bP,0,none⟩),.pointer (some ⟨bF,0,none⟩),.pointer (some ⟨bx,0,none⟩)] W0:=by
 intro m l J X W _ hkp hJ _ hY hJ0
 have hmo:Tryz.prog.follows .mixedOrders=true:=by kernel_rfl
 have HP:=hide (hp.keep hkp)
 have HQ:=hide (hq.keep hkp)
 have HX:=hide (hkp.same _ _ _ _ hx (by decide) (by decide))
 have HCell:Hid (∀W', Below W.heap.size W W' → W'.cell? ⟨bP,0,none⟩=some (.slice ao (pathN k).length ca)∧W'.cell? ⟨bF,0,none⟩=some (.slice bo q.length cb)∧W'.cell? ⟨bx,1,none⟩=some (.string x)):=fun W' hW=>⟨(HP.out.keep (KpP.of_below hW)).cell,(HQ.out.keep (KpP.of_below hW)).cell,cell_of_row W' _ 1 _ _ (0,0) ((KpP.of_below hW).same _ _ _ _ HX.out (by decide) (by decide))⟩
 have HCmp:=hide (fun W' (hW:Below W.heap.size W W')=>compare_any ao bo ca cb (pathN k) q W' (HP.out.nums.keep hW (Nat.le_refl _)) (HQ.out.nums.keep hW (Nat.le_refl _)) (by rw[pathN_length];omega) hql)
 have HKey:Hid (∀W', Below W.heap.size W W' → Calls Tryz.prog 152 #[.slice ao (pathN k).length ca] W' fun e w' => e=.returned (.string k)∧Below W.heap.size W w'):=fun W' hW=>by
  refine (key_any k ao ca W' hk (HP.out.nums.keep hW (Nat.le_refl _))).mono ?_
  rintro e w' ⟨h1,h2⟩
  exact⟨h1,hW.trans (h2.mono hW.size)⟩
 have HCl:Hid (∀W', Below W.heap.size W W' → Calls Tryz.prog 46 #[.string x] W' fun e w' => e=.returned (.string x)∧Below W.heap.size W w'):=fun W' hW=>by
  refine (clone_any x W' (by omega)).mono ?_
  rintro e w' ⟨h1,h2⟩
  exact⟨h1,hW.trans (h2.mono hW.size)⟩
 have HY:Hid (¬cmpL (pathN k) q<0→∀W', Below W.heap.size W W' → YieldAt Fence.wide (m - 1) Tryz.prog l #[.agg #[.string k,.string x],.int .i64 0] W' fun e W2=>∃tf,e=.returned (.bool tf)∧((tf=true∧J [(k,x)] W2)∨(tf=false∧X [(k,x)] W2))):=fun hc W' hW=>by
  obtain⟨fn,tmps,assign,body,hy,hR⟩:=hY (m - 1) [] (k,x) W' (hJ (max (l+1) W.heap.size) _ _ _ (by omega) hJ0 ⟨hW.os,hW.tape,hW.output,hW.size,fun j o ho _=>(hW.block j (aGe.1 ho).1).trans ho⟩) trivial (by unfold valPairs;rw[if_neg hc];exact List.prefix_refl _)
  refine⟨fn,tmps,assign,body,hy,hR.mono ?_⟩
  intro e W2 h
  obtain⟨tf,he,hz,_,_⟩:=h.one
  exact⟨tf,he,hz⟩
 have HJ0:Hid (∀W', Below W.heap.size W W' → J [] W'):=fun W' hW=>hJ (l+1) _ _ _ (by omega) hJ0 (Turned.of_below hW)
 have HV:Hid (valPairs q k x=if cmpL (pathN k) q<0 then [] else [(k,x)]):=rfl
 have hrg:=cmpL_rng (pathN k) q
 obtain⟨c0,c1,c2⟩:=HCell.out W (Below.refl _ _)
 clear hp hq hx hY hJ hkp
 generalize valPairs q k x=L at *
 by_cases hc:cmpL (pathN k) q<0
 ·rw[if_pos hc] at HV
  generalize cmpL (pathN k) q=z at *
  generalize (pathN k).length=pl at *
  refine callsIn_of_wp Tryz.func151 rfl trivial ?_ rfl
  simp only[Tryz.ntmps151,List.size_toArray,List.length_cons,List.length_nil,Nat.reduceAdd,Nat.reduceSub,Array.replicate_succ,Array.replicate_zero,List.push_toArray,List.append_toArray,List.nil_append,List.cons_append]
  gi_wp2_with fail
  refine⟨trivial,fun h=>absurd h (by decide),(callsIn_wide.2 (HCmp.out _ (Below.refl _ _))).mono ?_⟩
  rintro e w2 ⟨rfl,hb2⟩
  have HB2:=hide hb2
  clear hb2
  gi_wp2
  first|go_end0|refine bodyPost_ret (results_none rfl _ _ _) rfl ?_
  exact⟨⟨_,rfl⟩,.inl ⟨[],HV.out.symm,HJ0.out _ HB2.out⟩⟩
 ·rw[if_neg hc] at HV
  have HY2:=hide (HY.out hc)
  clear HY
  have hc2:0≤cmpL (pathN k) q:=by omega
  clear hc
  generalize cmpL (pathN k) q=z at *
  generalize (pathN k).length=pl at *
  refine callsIn_of_wp Tryz.func151 rfl trivial ?_ rfl
  simp only[Tryz.ntmps151,List.size_toArray,List.length_cons,List.length_nil,Nat.reduceAdd,Nat.reduceSub,Array.replicate_succ,Array.replicate_zero,List.push_toArray,List.append_toArray,List.nil_append,List.cons_append]
  gi_wp2_with fail
  refine⟨trivial,fun h=>absurd h (by decide),(callsIn_wide.2 (HCmp.out _ (Below.refl _ _))).mono ?_⟩
  rintro e w2 ⟨rfl,hb2⟩
  have HB2:=hide hb2
  obtain⟨c0,c1,c2⟩:=HCell.out w2 hb2
  clear hb2
  gi_wp2_with fail
  gi_region_with (first
   | (refine⟨fun h=>absurd h (by decide),HR.out.mono ?_⟩;intro e W3 h;obtain⟨tf,rfl,hz⟩:=h;have HZ:=hide hz;clear hz)
   | (refine⟨trivial,fun h=>absurd h (by decide),(callsIn_wide.2 (HKey.out _ (by first|exact HB3.out|exact HB2.out.drew))).mono ?_⟩;rintro e w3 ⟨rfl,hb3⟩;have HB3:=hide hb3;obtain⟨c0,c1,c2⟩:=HCell.out w3 hb3;obtain⟨fn,tmps,assign,body,hy,hR⟩:=HY2.out w3 hb3;have HR:=hide hR;clear hR hb3)
   | (refine⟨trivial,fun h=>absurd h (by decide),(callsIn_wide.2 (HCl.out _ (by first|exact HB3.out|exact HB2.out.drew))).mono ?_⟩;rintro e w3 ⟨rfl,hb3⟩;have HB3:=hide hb3;obtain⟨c0,c1,c2⟩:=HCell.out w3 hb3;obtain⟨fn,tmps,assign,body,hy,hR⟩:=HY2.out w3 hb3;have HR:=hide hR;clear hR hb3))
  all_goals
   gi_wp2
   first|go_end0|refine bodyPost_ret (results_none rfl _ _ _) rfl ?_
   refine⟨⟨_,rfl⟩,?_⟩
   rcases HZ.out with⟨_,h⟩|⟨_,h⟩
   ·exact .inl ⟨_,HV.out.symm,h⟩
   ·exact .inr ⟨_,h⟩
end Go.Proofs.YthdjmldddjljfaaGreatDoor
namespace Go.Proofs.YthdjmldddjljfaaGreatDoor
open Go.RowKit
attribute [local go_sem ↓] Go.wp_at_zero Go.wp_at_succ
theorem leafParts_made (b:Nat)(w:World):Calls Tryz.prog 206 #[ptr b] w fun e w' =>
  e=.returned (.func (.func 212) #[] #[.pointer (some ⟨w.heap.size,0,none⟩)])∧w' = w.alloc (.cells #[ptr b] 153):=by
 unfold ptr
 go_enter Tryz.func206,Tryz.ntmps206
 go_wp2
 go_ret
 exact⟨rfl,rfl⟩
theorem extParts_made (b:Nat)(w:World):Calls Tryz.prog 230 #[ptr b] w fun e w' =>
  e=.returned (.func (.func 234) #[] #[.pointer (some ⟨w.heap.size,0,none⟩)])∧w' = w.alloc (.cells #[ptr b] 250):=by
 unfold ptr
 go_enter Tryz.func230,Tryz.ntmps230
 go_wp2
 go_ret
 exact⟨rfl,rfl⟩
structure PairsAt (Hk:Nd→ByteArray→Prop)(ok:Nat→Prop)(W:World)(n:Nd)(p q:List Nat)(bA bP bF bS:Nat):Prop where
 at' : ∃u h ab dp,W.heap[bA]? = some (.cells #[u,.string h,ab,.int .i64 dp] 110 (0,0))∧NdAt Hk ok W n u∧(n=.nil→h=e0)
 path:∃ao cap,PathBox W bP ao cap p
 first:∃g o cap,PathBox W bF (some ⟨g,o,none⟩) cap q
 store:∃M,W.heap[bS]? = some (.cells #[.map (some M)] 61 (0,0))
theorem PairsAt.keep {Hk:Nd→ByteArray→Prop}{ok:Nat→Prop}{W W' : World}{n:Nd}{p q:List Nat}{bA bP bF bS:Nat}(h:PairsAt Hk ok W n p q bA bP bF bS)(hk:KpP W W'):PairsAt Hk ok W' n p q bA bP bF bS:=by
 obtain⟨⟨u,g,ab,dp,h1,h2,h3⟩,⟨ao,cap,h4⟩,⟨b,o,cap2,h5⟩,⟨M,h6⟩⟩:=h
 exact⟨⟨u,g,ab,dp,hk.same _ _ _ _ h1 (by decide) (by decide),NdAt.keepP hk _ _ h2,h3⟩,⟨ao,cap,h4.keep hk⟩,⟨b,o,cap2,h5.keep hk⟩,⟨M,hk.same _ _ _ _ h6 (by decide) (by decide)⟩⟩
theorem four_boxes (w:World)(o1 o2 o3 o4:Obj):((((w.alloc o1).alloc o2).alloc o3).alloc o4).heap[w.heap.size]? = some o1∧((((w.alloc o1).alloc o2).alloc o3).alloc o4).heap[w.heap.size+1]? = some o2∧((((w.alloc o1).alloc o2).alloc o3).alloc o4).heap[w.heap.size+1+1]? = some o3∧((((w.alloc o1).alloc o2).alloc o3).alloc o4).heap[w.heap.size+1+1+1]? = some o4∧Below w.heap.size w ((((w.alloc o1).alloc o2).alloc o3).alloc o4):=by
 have a2:=heap_alloc_new (w.alloc o1) o2
 have a3:=heap_alloc_new ((w.alloc o1).alloc o2) o3
 have a4:=heap_alloc_new (((w.alloc o1).alloc o2).alloc o3) o4
 simp only[World.size_alloc] at a2 a3 a4
 refine⟨?_,?_,?_,a4,(((below_alloc w o1).alloc (by simp) o2).alloc (by simp;omega) o3).alloc (by simp;omega) o4⟩
 ·rw[Below.heap_alloc _ _ _ (by simp only[World.size_alloc];omega),Below.heap_alloc _ _ _ (by simp only[World.size_alloc];omega),Below.heap_alloc _ _ _ (by simp only[World.size_alloc];omega)]
  exact heap_alloc_new w o1
 ·rw[Below.heap_alloc _ _ _ (by simp),Below.heap_alloc _ _ _ (by simp)]
  exact a2
 ·rw[Below.heap_alloc _ _ _ (by simp)]
  exact a3
theorem pairs_made (Hk:Nd→ByteArray→Prop)(ok:Nat→Prop)(n:Nd)(M:Nat)(u:Value)(h:ByteArray)(ab:Value)(dp:Int)(ao:Option Addr)(ca g o cb:Nat)(p q:List Nat)(w:World)(hn:NdAt Hk ok w n u)(hh:n=.nil→h=e0)(hp:Nums w ao p)(hp0:ao=none→ca=0)(hpc:p.length≤ca)(hq:Nums w (some ⟨g,o,none⟩) q)(hqc:q.length≤cb) :
  Calls Tryz.prog 107 #[.map (some M),.agg #[u,.string h,ab,.int .i64 dp],.slice ao p.length ca,.slice (some ⟨g,o,none⟩) q.length cb] w fun e w' =>
   ∃bA bP bF bS,e=.returned (.func (.func 128) #[] #[.pointer (some ⟨bA,0,none⟩),.pointer (some ⟨bP,0,none⟩),.pointer (some ⟨bF,0,none⟩),.pointer (some ⟨bS,0,none⟩)])∧PairsAt Hk ok w' n p q bA bP bF bS∧Below w.heap.size w w' := by
 have HF:=hide (four_boxes w (.cells #[.map (some M)] 61) (.cells #[u,.string h,ab,.int .i64 dp] 110) (.cells #[.slice ao p.length ca] 80) (.cells #[.slice (some ⟨g,o,none⟩) q.length cb] 80))
 have HX:=hide (And.intro hn (And.intro hp (And.intro hq hh)))
 clear hn hp hq hh
 go_enter Tryz.func107,Tryz.ntmps107
 go_wp2
 go_ret
 obtain⟨k1,k2,k3,k4,kb⟩:=HF.out
 obtain⟨hn,hp,hq,hh⟩:=HX.out
 exact⟨w.heap.size+1,w.heap.size+1+1,w.heap.size+1+1+1,w.heap.size,rfl,⟨⟨u,h,ab,dp,k2,hn.keep kb,hh⟩,⟨ao,ca,k3,hp.keep kb (Nat.le_refl _),hp0,hpc⟩,⟨g,o,cb,k4,hq.keep kb (Nat.le_refl _),(fun e=>by cases e),hqc⟩,⟨M,k1⟩⟩,kb⟩
theorem three_boxes (w:World)(o1 o2 o3:Obj):(((w.alloc o1).alloc o2).alloc o3).heap[w.heap.size]? = some o1∧(((w.alloc o1).alloc o2).alloc o3).heap[w.heap.size+1]? = some o2∧(((w.alloc o1).alloc o2).alloc o3).heap[w.heap.size+1+1]? = some o3∧Below w.heap.size w (((w.alloc o1).alloc o2).alloc o3):=by
 have a2:=heap_alloc_new (w.alloc o1) o2
 have a3:=heap_alloc_new ((w.alloc o1).alloc o2) o3
 simp only[World.size_alloc] at a2 a3
 refine⟨?_,?_,a3,((below_alloc w o1).alloc (by simp) o2).alloc (by simp;omega) o3⟩
 ·rw[Below.heap_alloc _ _ _ (by simp only[World.size_alloc];omega),Below.heap_alloc _ _ _ (by simp only[World.size_alloc];omega)]
  exact heap_alloc_new w o1
 ·rw[Below.heap_alloc _ _ _ (by simp)]
  exact a2
theorem pairsOf_val (M:Nat)(x:Pt)(hx:x.val.size≠0)(ab:Value)(ao bo:Option Addr)(ca cb:Nat)(p q:List Nat)(w:World)(hp:Nums w ao p)(hp0:ao=none→ca=0)(hpc:p.length≤ca)(hq:Nums w bo q)(hq0:bo=none→cb=0)(hqc:q.length≤cb) :
  Calls Tryz.prog 131 #[.map (some M),.agg #[.slice x.ao x.len x.cap,.string x.val,x.node,.string x.hash],ab,.slice ao p.length ca,.slice bo q.length cb] w fun e w' =>
   ∃bP bF bx,e=.returned (.func (.func 151) #[] #[.pointer (some ⟨bP,0,none⟩),.pointer (some ⟨bF,0,none⟩),.pointer (some ⟨bx,0,none⟩)])∧PathBox w' bP ao ca p∧PathBox w' bF bo cb q∧w'.heap[bx]? = some (.cells #[.slice x.ao x.len x.cap,.string x.val,x.node,.string x.hash] 191 (0,0))∧Below w.heap.size w w' := by
 have HF:=hide (three_boxes w (.cells #[.slice x.ao x.len x.cap,.string x.val,x.node,.string x.hash] 191) (.cells #[.slice ao p.length ca] 80) (.cells #[.slice bo q.length cb] 80))
 have hv:=isEmptyV hx
 have HX:=hide (And.intro hp hq)
 have c1:(((w.alloc (.cells #[.slice x.ao x.len x.cap,.string x.val,x.node,.string x.hash] 191)).alloc (.cells #[.slice ao p.length ca] 80)).alloc (.cells #[.slice bo q.length cb] 80)).cell? ⟨w.heap.size,1,none⟩=some (.string x.val):=cell_of_row _ _ 1 _ _ (0,0) HF.out.1
 clear hp hq
 go_enter Tryz.func131,Tryz.ntmps131
 go_wp2
 go_ret
 obtain⟨k1,k2,k3,kb⟩:=HF.out
 obtain⟨hp,hq⟩:=HX.out
 exact⟨w.heap.size+1,w.heap.size+1+1,w.heap.size,rfl,⟨k2,hp.keep kb (Nat.le_refl _),hp0,hpc⟩,⟨k3,hq.keep kb (Nat.le_refl _),hq0,hqc⟩,k1,kb⟩
theorem pairsOf_sub (Hk:Nd→ByteArray→Prop)(ok:Nat→Prop)(n:Nd)(hnn:n≠.nil)(M:Nat)(xa:Option Addr)(xl xc:Nat)(u:Value)(h:ByteArray)(tb:TypeId)(bb:Nat)(ao:Option Addr)(ca g o cb:Nat)(p q:List Nat)(w:World)(hn:NdAt Hk ok w n u)(hp:Nums w ao p)(hp0:ao=none→ca=0)(hpc:p.length≤ca)(hq:Nums w (some ⟨g,o,none⟩) q)(hqc:q.length≤cb) :
  Calls Tryz.prog 131 #[.map (some M),.agg #[.slice xa xl xc,.string e0,u,.string h],.iface tb (ptr bb),.slice ao p.length ca,.slice (some ⟨g,o,none⟩) q.length cb] w fun e w' =>
   ∃bA bP bF bS,e=.returned (.func (.func 128) #[] #[.pointer (some ⟨bA,0,none⟩),.pointer (some ⟨bP,0,none⟩),.pointer (some ⟨bF,0,none⟩),.pointer (some ⟨bS,0,none⟩)])∧PairsAt Hk ok w' n p q bA bP bF bS∧Below w.heap.size w w' := by
 obtain⟨t,ub,rfl⟩:=hn.some hnn
 have HF:=hide (three_boxes w (.cells #[.slice xa xl xc,.string e0,.iface t (ptr ub),.string h] 191) (.cells #[.slice ao p.length ca] 80) (.cells #[.slice (some ⟨g,o,none⟩) q.length cb] 80))
 have HM:Hid (∀W,Below w.heap.size w W→Calls Tryz.prog 107 #[.map (some M),.agg #[.iface t (ptr ub),.string h,.iface tb (ptr bb),.int .i64 (p.length:Int)],.slice ao p.length ca,.slice (some ⟨g,o,none⟩) q.length cb] W fun e w' =>
   ∃bA bP bF bS,e=.returned (.func (.func 128) #[] #[.pointer (some ⟨bA,0,none⟩),.pointer (some ⟨bP,0,none⟩),.pointer (some ⟨bF,0,none⟩),.pointer (some ⟨bS,0,none⟩)])∧PairsAt Hk ok w' n p q bA bP bF bS∧Below w.heap.size w w'):=fun W hW=>by
  refine (pairs_made Hk ok n M _ h (.iface tb (ptr bb)) p.length ao ca g o cb p q W (hn.keep hW) (fun e=>absurd e hnn) (hp.keep hW (Nat.le_refl _)) hp0 hpc (hq.keep hW (Nat.le_refl _)) hqc).mono ?_
  rintro e w' ⟨bA,bP,bF,bS,h1,h2,h3⟩
  exact⟨bA,bP,bF,bS,h1,h2,hW.trans (h3.mono hW.size)⟩
 clear hn hp hq
 unfold ptr at *
 go_enter Tryz.func131,Tryz.ntmps131
 go_wp2_with fail
 refine (HM.out _ HF.out.2.2.2).mono ?_
 rintro e w2 ⟨bA,bP,bF,bS,rfl,h2,h3⟩
 have HX:=hide (And.intro h2 h3)
 clear h2 h3
 go_wp2
 go_ret
 exact⟨bA,bP,bF,bS,rfl,HX.out.1,HX.out.2⟩
end Go.Proofs.YthdjmldddjljfaaGreatDoor
namespace Go.Proofs.YthdjmldddjljfaaGreatDoor
open Go.RowKit Go.Shelf
def keyOf (p:List Nat):ByteArray:=strOfNums (pairUp (intsOf p))
theorem keyOf_path (k:ByteArray):keyOf (pathN k)=k:=by
 unfold keyOf pathN
 rw[pairUp_nibs,str_bytes]
def tellL (q:List Nat)(l:List (List Nat×ByteArray)):List (ByteArray×ByteArray):=l.flatMap fun x=>if cmpL x.1 q<0 then [] else [(keyOf x.1,x.2)]
theorem tellL_append (q:List Nat)(l m:List (List Nat×ByteArray)):tellL q (l++m)=tellL q l++tellL q m:=by simp[tellL]
theorem tellL_none {q:List Nat}{l:List (List Nat×ByteArray)}(h:∀x∈l,plt x.1 q):tellL q l=[]:=by
 unfold tellL
 rw[List.flatMap_eq_nil_iff]
 intro x hx
 rw[if_pos ((cmpL_neg _ _).2 (h x hx))]
theorem tellL_val (q p:List Nat)(k x:ByteArray)(h:p=pathN k):tellL q [(p,x)]=valPairs q k x:=by
 subst h
 unfold tellL valPairs
 simp[keyOf_path]
theorem plt_far:∀(p q r:List Nat),plt p (q.take p.length)→plt (p++r) q
 | [],_,_,h=>by simp[plt] at h
 | a :: p,[],r,h=>by simp[plt] at h
 | a :: p,b :: q,r,h=>by
   simp only[List.length_cons,List.take_succ_cons,plt,List.cons_append] at h ⊢
   exact h.imp id (fun h=>⟨h.1,plt_far p q r h.2⟩)
def KeysOk (l:List (List Nat×ByteArray)):Prop:=∀x∈l,(∃k:ByteArray,x.1=pathN k∧k.size≤64)∧x.2.size≤400
theorem KeysOk.len {l:List (List Nat×ByteArray)}(h:KeysOk l){x:List Nat×ByteArray}(hx:x∈l):x.1.length≤128:=by
 obtain⟨⟨k,e,hk⟩,_⟩:=h x hx
 rw[e,pathN_length];omega
theorem parts_sub {n m:Nd}{p' : List Nat}(hw:n.WF)(h:PS.sub p' m∈n.partsL):m.WF∧m≠.nil:=by
 cases n with
 | nil=>simp[Nd.partsL] at h
 | leaf p x=>simp[Nd.partsL] at h
 | ext p n =>
   simp[Nd.partsL] at h
   obtain⟨rfl,rfl⟩:=h
   refine⟨hw.2.2.2,fun e=>?_⟩
   have:=hw.2.2.1
   rw[e] at this
   simp[Nd.isBr] at this
 | br c x =>
   simp only[Nd.partsL,List.mem_append,List.mem_map] at h
   rcases h with h|⟨i,hi,e⟩
   ·split at h<;>simp at h
   ·injection e with _ e
    subst e
    exact⟨hw.1 i,((full_mem c i).1 hi).2⟩
theorem parts_flat {n:Nd}{s:PS}{p:List Nat}(h:s∈n.partsL):∀x∈s.flat p,x∈n.flat p:=fun x hx=>by
 rw[flat_parts]
 exact List.mem_flatMap.2 ⟨s,h,hx⟩
theorem part_some {n:Nd}{s:PS}{p:List Nat}(hw:n.WF)(h:s∈n.partsL):∃r x,(p++s.path++r,x)∈s.flat p:=by
 cases s with
 | val p' x=>exact⟨[],x,by simp[PS.flat,PS.path]⟩
 | sub p' m =>
   obtain⟨hm,hn⟩:=parts_sub hw h
   obtain⟨r,hr,_⟩:=look_some m hm hn
   refine⟨r,m.look r,?_⟩
   show _∈m.flat (p++p')
   rw[flat_mem m _ _ hm]
   exact⟨r,rfl,rfl,hr⟩
theorem part_len {n:Nd}{s:PS}{p:List Nat}(hw:n.WF)(hk:KeysOk (n.flat p))(h:s∈n.partsL):(p++s.path).length≤128:=by
 obtain⟨r,x,hx⟩:=part_some (p:=p) hw h
 have:=hk.len (parts_flat h _ hx)
 simp only[List.length_append] at this ⊢
 omega
theorem meth_pa_leaf (b : Nat) (w : World) : (method 438 153 (ptr b) "canopy/tree.parts").run Tryz.prog w = .ok (206, ptr b) w := by kernel_rfl
theorem meth_pa_ext (b : Nat) (w : World) : (method 438 250 (ptr b) "canopy/tree.parts").run Tryz.prog w = .ok (230, ptr b) w := by kernel_rfl
theorem meth_pa_br (b : Nat) (w : World) : (method 438 252 (ptr b) "canopy/tree.parts").run Tryz.prog w = .ok (179, ptr b) w := by kernel_rfl
theorem node_parts (Hk:Nd→ByteArray→Prop)(ok:Nat→Prop)(n:Nd)(W:World)(u:Value)(hw:n.WF)(hn:NdAt Hk ok W n u)(hnn:n≠.nil) :
  ∃ t b fid gf, ∃ tt : TypeId, u = .iface t (ptr b) ∧ (∀ w, (method 438 t (ptr b) "canopy/tree.parts").run Tryz.prog w = .ok (fid, ptr b) w) ∧ (∀ args w, (callFunc fid args).run Tryz.prog w = .ok (.enter fid args) w) ∧ (∀ args w, (callFunc gf args).run Tryz.prog w = .ok (.enter gf args) w) ∧
   (∀w,Calls Tryz.prog fid #[ptr b] w fun e w' => e=.returned (.func (.func gf) #[] #[.pointer (some ⟨w.heap.size,0,none⟩)])∧w' = w.alloc (.cells #[ptr b] tt)) ∧
   (∀W' bx,W'.heap[bx]? = some (.cells #[ptr b] tt (0,0))→NdAt Hk ok W' n (.iface t (ptr b))→TellsParts Hk ok n gf #[.pointer (some ⟨bx,0,none⟩)] W'):=by
 cases n with
 | nil=>exact absurd rfl hnn
 | leaf p x =>
   obtain⟨b,_,_,e,_⟩:=id hn
   exact⟨_,b,_,_,_,e,meth_pa_leaf b,fun _ _=>by kernel_rfl,fun _ _=>by kernel_rfl,leafParts_made b,fun W' bx h1 h2=>leafParts_tells Hk ok bx b p x W' h1 h2 hw.1⟩
 | ext p m =>
   obtain⟨b,_,_,_,_,e,_⟩:=id hn
   exact⟨_,b,_,_,_,e,meth_pa_ext b,fun _ _=>by kernel_rfl,fun _ _=>by kernel_rfl,extParts_made b,fun W' bx h1 h2=>extParts_tells Hk ok bx b p m W' h1 h2 (fun e=>by
    have:=hw.2.2.1
    rw[e] at this
    simp[Nd.isBr] at this)⟩
 | br c x =>
   obtain⟨b,_,_,e,_⟩:=id hn
   exact⟨_,b,_,_,_,e,meth_pa_br b,fun _ _=>by kernel_rfl,fun _ _=>by kernel_rfl,brParts_made b,fun W' bx h1 h2=>brParts_tells Hk ok bx b c x W' h1 h2⟩
def PairsOk (Hk:Nd→ByteArray→Prop)(ok:Nat→Prop)(n:Nd):Prop :=
 ∀(p q:List Nat) (bA bP bF bS:Nat) (W0:World),n.WF→KeysOk (n.flat p)→q.length≤1000→p.length≤1000→PairsAt Hk ok W0 n p q bA bP bF bS →
  TellsPairs (tellL q (n.flat p)) 128 #[.pointer (some ⟨bA,0,none⟩),.pointer (some ⟨bP,0,none⟩),.pointer (some ⟨bF,0,none⟩),.pointer (some ⟨bS,0,none⟩)] W0
end Go.Proofs.YthdjmldddjljfaaGreatDoor
namespace Go.Proofs.YthdjmldddjljfaaGreatDoor
open Go.RowKit Go.Shelf
attribute [local go_sem] Oper.semAt_some
theorem Pays.turn {B B' : Nat}{V A A' : World}(h:Pays B V A)(ht:Turned B' A A')(hB:V.heap.size≤B'):Pays B V A' := fun k o hk ho hc=>ht.same k o (h k o hk ho hc) (.inl (Nat.lt_of_lt_of_le (aGe.1 ho).1 hB))
set_option maxRecDepth 100000 in
theorem pairs_step (Hk:Nd→ByteArray→Prop)(ok:Nat→Prop)(n:Nd)(hsub:∀p' m,PS.sub p' m∈n.partsL→PairsOk Hk ok m):PairsOk Hk ok n:=by
 intro p q bA bP bF bS W0 hwf hkeys hql hpl hat m l J X W hl hkp hJ hX hY hJ0
 obtain⟨⟨u,g,ab,dp,hA,hn,hg⟩,⟨ao,ca,hP⟩,⟨gq,oq,cb,hF⟩,⟨M,hS⟩⟩:=hat.keep hkp
 clear hat hkp
 refine callsIn_wide.2 ((callsIn_wide (n:=9)).1 ?_)
 have c0:W.cell? ⟨bA,0,none⟩=some u:=cell_of_row W _ 0 _ _ (0,0) hA
 have c1:W.cell? ⟨bA,1,none⟩=some (.string g):=cell_of_row W _ 1 _ _ (0,0) hA
 have c2:W.cell? ⟨bA,2,none⟩=some ab:=cell_of_row W _ 2 _ _ (0,0) hA
 have c3:W.cell? ⟨bA,3,none⟩=some (.int .i64 dp):=cell_of_row W _ 3 _ _ (0,0) hA
 have hb1:=below_alloc W (.cells #[.func (.yield l) #[] #[]] 217)
 have hA1:=(hb1.block _ (aGe.1 hA).1).trans hA
 have d0:=cell_of_row _ _ 0 _ _ (0,0) hA1
 have d1:=cell_of_row _ _ 1 _ _ (0,0) hA1
 have HJb:Hid (∀W', Below W.heap.size W W' → J [] W'):=fun W' hW=>hJ (l+1) _ _ _ (by omega) hJ0 (Turned.of_below hW)
 by_cases hnil:n=.nil
 ·subst hnil
  obtain rfl:u=.nilIface:=hn
  obtain rfl:=hg rfl
  have ht:tellL q (Nd.nil.flat p)=[]:=rfl
  rw[ht]
  refine callsIn_of_wp_marks Tryz.func128 rfl trivial ?_ rfl
  simp only[Tryz.ntmps128,List.size_toArray,List.length_cons,List.length_nil,Nat.reduceAdd,Nat.reduceSub,Array.replicate_succ,Array.replicate_zero,List.push_toArray,List.append_toArray,List.nil_append,List.cons_append]
  gi_wp2_with fail
  refine⟨trivial,CallsIn.mono (isEmpty_in_yes Fence.wide _ trivial rfl bA 0 _ d0 d1) ?_⟩
  rintro e w2 ⟨rfl,rfl⟩
  gi_wp2_with fail
  refine⟨trivial,?_⟩
  gi_wp2
  exact⟨_,results_none rfl _ _ _,⟨_,rfl⟩,.inl ⟨[],rfl,HJb.out _ hb1⟩⟩
 ·obtain⟨t,b,fid,gf,tt,rfl,hm,efid,egf,hMade,hTells⟩:=node_parts Hk ok n W u hwf hn hnil
  have HMay:=hide (fun W' (hW:Below W.heap.size W W')=>mayReach_any ao ca gq oq cb p q W' (hP.nums.keep hW (Nat.le_refl _)) (hF.nums.keep hW (Nat.le_refl _)) hpl hql hF.cap)
  have HCell:Hid (∀W', Below W.heap.size W W' → W'.cell? ⟨bP,0,none⟩=some (.slice ao p.length ca)∧W'.cell? ⟨bF,0,none⟩=some (.slice (some ⟨gq,oq,none⟩) q.length cb)∧W'.cell? ⟨bS,0,none⟩=some (.map (some M))∧W'.cell? ⟨bA,0,none⟩=some (.iface t (ptr b))∧W'.cell? ⟨bA,1,none⟩=some (.string g)∧W'.cell? ⟨bA,2,none⟩=some ab∧W'.cell? ⟨bA,3,none⟩=some (.int .i64 dp)):=fun W' hW=>by
   have hA' := (hW.block _ (aGe.1 hA).1).trans hA
   exact⟨(hP.keep (KpP.of_below hW)).cell,(hF.keep (KpP.of_below hW)).cell,cell_of_row W' _ 0 _ _ (0,0) ((hW.block _ (aGe.1 hS).1).trans hS),cell_of_row W' _ 0 _ _ (0,0) hA', cell_of_row W' _ 1 _ _ (0,0) hA', cell_of_row W' _ 2 _ _ (0,0) hA', cell_of_row W' _ 3 _ _ (0,0) hA'⟩
  obtain⟨cP,cF,cS,_,_,c2,c3⟩:=HCell.out _ hb1
  refine callsIn_of_wp_marks Tryz.func128 rfl trivial ?_ rfl
  simp only[Tryz.ntmps128,List.size_toArray,List.length_cons,List.length_nil,Nat.reduceAdd,Nat.reduceSub,Array.replicate_succ,Array.replicate_zero,List.push_toArray,List.append_toArray,List.nil_append,List.cons_append]
  gi_wp2_with fail
  refine⟨trivial,CallsIn.mono (isEmpty_in_no Fence.wide _ trivial rfl bA 0 t b _ d0) ?_⟩
  rintro e w2 ⟨rfl,rfl⟩
  gi_wp2_with fail
  refine⟨trivial,(callsIn_wide.2 (HMay.out _ hb1)).mono ?_⟩
  rintro e w2 ⟨rfl,hb2⟩
  have hb3:=hb1.trans (hb2.mono hb1.size)
  have HB3:=hide hb3
  obtain⟨cP,cF,cS,c0,c1,c2,c3⟩:=HCell.out _ hb3
  have HY2:Hid (w2.heap[W.heap.size]? = some (.cells #[.func (.yield l) #[] #[]] 217 (0,0))):=(hb2.block _ (by simp)).trans (heap_alloc_new W _)
  have HYl:Hid (W.heap.size<w2.heap.size):=Nat.lt_of_lt_of_le (by simp) hb2.size
  have cY:w2.cell? ⟨W.heap.size,0,none⟩=some (.func (.yield l) #[] #[]):=cell_of_row w2 _ 0 _ _ (0,0) ((hb2.block _ (by simp)).trans (heap_alloc_new W _))
  clear hb2 hb3
  by_cases hmr:0≤cmpL p (q.take p.length)
  ·rw[decide_eq_true hmr]
   gi_wp2_with fail
   refine⟨trivial,(callsIn_wide.2 (read_any _ t b g ab dp _)).mono ?_⟩
   rintro e w3 ⟨rfl,hb4⟩
   gi_wp2_with fail
   refine⟨trivial,(callsIn_wide.2 (hMade _)).mono ?_⟩
   rintro e w4 ⟨rfl,rfl⟩
   obtain⟨N,hN⟩:∃N,N=w3.heap.size:=⟨_,rfl⟩
   obtain⟨W5,hW5⟩:∃W5,W5=(w3.alloc (.cells #[.iface t (ptr b)] 63)).alloc (.cells #[ptr b] tt):=⟨_,rfl⟩
   have hb35:Below w3.heap.size w3 W5:=by rw[hW5];exact below_alloc2 _ _ _
   have hb5:Below W.heap.size W W5:=(HB3.out.trans (hb4.mono HB3.out.size)).trans (hb35.mono (Nat.le_trans HB3.out.size hb4.size))
   have n5:W5.heap[N]? = some (.cells #[.iface t (ptr b)] 63 (0,0)):=by
    rw[hW5,hN,Below.heap_alloc _ _ _ (by simp)]
    exact heap_alloc_new w3 _
   have p5:W5.heap[N+1]? = some (.cells #[ptr b] tt (0,0)):=by
    have h:=heap_alloc_new (w3.alloc (.cells #[.iface t (ptr b)] 63)) (.cells #[ptr b] tt)
    rw[World.size_alloc] at h
    rw[hW5,hN]
    exact h
   have y5:W5.heap[W.heap.size]? = some (.cells #[.func (.yield l) #[] #[]] 217 (0,0)):=by
    rw[hb35.block _ (Nat.lt_of_lt_of_le HYl.out hb4.size),hb4.block _ HYl.out]
    exact HY2.out
   simp only[World.size_alloc,←hW5,←hN]
   clear hW5 hb35 hb4 hN
   gi_wp2_with fail
   have hl5:l<W5.heap.size:=Nat.lt_of_lt_of_le hl hb5.size
   have hNd5:NdAt Hk ok W5 n (.iface t (ptr b)):=hn.keep hb5
   have HT:=hide (hTells W5 (N+1) p5 hNd5)
   have HK5:Hid (PathBox W5 bP ao ca p∧PathBox W5 bF (some ⟨gq,oq,none⟩) cb q∧W5.heap[bS]? = some (.cells #[.map (some M)] 61 (0,0))):=⟨hP.keep (KpP.of_below hb5),hF.keep (KpP.of_below hb5),(KpP.of_below hb5).same _ _ _ _ hS (by decide) (by decide)⟩
   have HJ5:=hide (HJb.out W5 hb5)
   refine rangeS (α:=PS×Pt) (w:=W5) rfl (by omega) (gf:=gf) (lb:=#[.pointer (some ⟨N+1,0,none⟩)]) rfl trivial egf (encs:=encPart) (fun _=>rfl) (Fx:=PtAt Hk ok) (Kp:=KpP) (Done:=fun xs=>xs.map Prod.fst=n.partsL) (fun pre y=>(pre++[y]).map Prod.fst <+: n.partsL)
    (fun pre A=>J (tellL q ((pre.map Prod.fst).flatMap (PS.flat p))) A∧KpP W5 A) (fun c _ A=>c=.ret∧∃xs,X xs A)
    (fun pre A A' h ht=>⟨hJ W5.heap.size _ _ _ hl5 h.1 ht,h.2.trans (KpP.of_turned ht)⟩) (fun c pre A A' h ht=>⟨h.1,h.2.imp fun xs hx=>hX W5.heap.size _ _ _ hl5 hx ht⟩) (fun x A A' h ht=>h.keep (KpP.of_turned ht)) (fun A A2 A3 A4 h1 h2 h3=>KpP.turn A A2 A3 A4 h1 h2 h3)
    (fun l3 J3 X3 W3 hl3 hT3 hJ3 hX3 hY3 hJ30=>HT.out 8 l3 J3 X3 W3 hl3 (KpP.of_turned hT3) hJ3 hX3 (fun m' pre x W1 h1 h2 h3=>any_round (hY3 pre x W1 h1 h2 h3)) hJ30)
    ⟨HJ5.out,KpP.refl _⟩
    (fun y a' V=>∃Bx:Nat,V.heap[Bx]? = some (.cells #[.slice y.2.ao y.2.len y.2.cap,.string y.2.val,y.2.node,.string y.2.hash] 191 (0,0))∧a' = { tmps:=#[.func (.yield l) #[] #[],.pointer (some ⟨bA,0,none⟩),.pointer (some ⟨bP,0,none⟩),.pointer (some ⟨bF,0,none⟩),.pointer (some ⟨bS,0,none⟩),.pointer (some ⟨W.heap.size,0,none⟩),.pointer (some ⟨N,0,none⟩),.int .i64 0,.pointer (some ⟨Bx,0,none⟩),undef,undef,undef,.pointer (some ⟨bA,0,none⟩),.bool false,.bool false,.slice ao p.length ca,.slice (some ⟨gq,oq,none⟩) q.length cb,.bool true,.bool false,.bool false,.tuple #[.iface t (ptr b),.int .i64 0],.map (some M),.agg #[.iface t (ptr b),.string g,ab,.int .i64 dp],.tuple #[.iface t (ptr b),.int .i64 0],.iface t (ptr b),.int .i64 0,.int .i64 0,.bool false,undef,undef,undef,undef,.iface t (ptr b),.func (.func gf) #[] #[.pointer (some ⟨N+1,0,none⟩)],.agg #[.slice y.2.ao y.2.len y.2.cap,.string y.2.val,y.2.node,.string y.2.hash],undef,undef,undef,undef,undef,undef,undef,undef,undef,undef,undef,undef,undef,undef,undef,undef,undef,undef],defers:=[] })
    ?assign (fun y a' A A' ⟨Bx,k1,k2⟩ ht=>⟨Bx,ht.same _ _ k1 (.inr rfl),k2⟩) ?body ?done ?stop
   case assign =>
    intro l2 pre y V K hi hx hK
    obtain⟨s,xa,xl,xc,xv,xn,xh,hxn⟩:=y
    simp only[encPart,Pt.enc]
    rcases hxn with rfl|⟨t2,b2,rfl⟩
    all_goals
     gi_wp2
     exact hK _ _ ⟨V.heap.size,heap_alloc_new V _,rfl⟩ ⟨hJ W5.heap.size _ _ _ hl5 hi.1 (Turned.of_below (below_alloc V _)),hi.2.trans (KpP.of_below (below_alloc V _))⟩ (hx.keep (KpP.of_below (below_alloc V _))) (pays_alloc _ V _) (Turned.of_below (below_alloc V _))
   case body =>
    rintro l2 pre y a' V ⟨Bx,hbx,rfl⟩ ⟨hi1,hi2⟩ hx hlt hl2 ⟨r2,hr2⟩
    obtain⟨s,xa,xl,xc,xv,xn,xh,hxn⟩:=y
    obtain⟨⟨hxl,hxN,hx0,hxc⟩,hxk⟩:=hx
    dsimp only at hxl hxN hx0 hxc hxk hbx ⊢
    subst hxl
    have hmem:s∈n.partsL:=hlt.subset (by simp)
    have hlen:=part_len (p:=p) hwf hkeys hmem
    rw[List.length_append] at hlen
    have HP2:=hide (HK5.out.1.keep hi2)
    have HF2:=hide (HK5.out.2.1.keep hi2)
    have HS2:=hide (hi2.same _ _ _ _ HK5.out.2.2 (by decide) (by decide))
    have HN2:=hide (hi2.same _ _ _ _ n5 (by decide) (by decide))
    have HY5:=hide (hi2.same _ _ _ _ y5 (by decide) (by decide))
    have HBx:=hide hbx
    have hr2l:=(aGe.1 hr2).1
    have HC2:Hid (∀V', Below V.heap.size V V' → V'.cell? ⟨bP,0,none⟩=some (.slice ao p.length ca)∧V'.cell? ⟨bF,0,none⟩=some (.slice (some ⟨gq,oq,none⟩) q.length cb)∧V'.cell? ⟨bS,0,none⟩=some (.map (some M))∧V'.cell? ⟨N,0,none⟩=some (.iface t (ptr b))∧V'.cell? ⟨Bx,0,none⟩=some (.slice xa s.path.length xc)∧V'.cell? ⟨Bx,1,none⟩=some (.string xv)∧V'.cell? ⟨Bx,2,none⟩=some xn∧V'.cell? ⟨Bx,3,none⟩=some (.string xh)):=fun V' hV=>by
     have hB:=(hV.block _ (aGe.1 HBx.out).1).trans HBx.out
     exact⟨(HP2.out.keep (KpP.of_below hV)).cell,(HF2.out.keep (KpP.of_below hV)).cell,cell_of_row V' _ 0 _ _ (0,0) ((hV.block _ (aGe.1 HS2.out).1).trans HS2.out),cell_of_row V' _ 0 _ _ (0,0) ((hV.block _ (aGe.1 HN2.out).1).trans HN2.out),cell_of_row V' _ 0 _ _ (0,0) hB,cell_of_row V' _ 1 _ _ (0,0) hB,cell_of_row V' _ 2 _ _ (0,0) hB,cell_of_row V' _ 3 _ _ (0,0) hB⟩
    have HCC:Hid (Calls Tryz.prog 130 #[.slice (some ⟨V.heap.size,0,none⟩) 2 2] (V.alloc (.cells #[.slice ao p.length ca,.slice xa s.path.length xc] 80)) fun e w' => ∃a1 k1,e=.returned (.slice a1 (p++s.path).length k1)∧Nums w' a1 (p++s.path)∧(a1=none→k1=0)∧(p++s.path).length≤k1∧Below V.heap.size V w'):=by
     have hb:=below_alloc V (.cells #[.slice ao p.length ca,.slice xa s.path.length xc] 80)
     have hnw:=heap_alloc_new V (.cells #[.slice ao p.length ca,.slice xa s.path.length xc] 80)
     refine (concat2_any V.heap.size ao xa ca xc p s.path _ (cell_of_row _ _ 0 _ _ (0,0) hnw) (cell_of_row _ _ 1 _ _ (0,0) hnw) (HP2.out.nums.keep hb (Nat.le_refl _)) (hxN.keep hb (Nat.le_refl _)) HP2.out.nil hx0 HP2.out.cap hxc (by omega) (by omega)).mono ?_
     rintro e w' ⟨a1,k1,rfl,_,h2,h3,h4,h5⟩
     exact⟨a1,k1,rfl,h2,h3,h4,hb.trans (h5.mono hb.size)⟩
    have HPO:Hid (∀(a1:Option Addr) (k1:Nat) (W6:World),Below V.heap.size V W6→Nums W6 a1 (p++s.path)→(a1=none→k1=0)→(p++s.path).length≤k1→Calls Tryz.prog 131 #[.map (some M),.agg #[.slice xa s.path.length xc,.string xv,xn,.string xh],.iface t (ptr b),.slice a1 (p++s.path).length k1,.slice (some ⟨gq,oq,none⟩) q.length cb] W6 fun e w' =>
      ∃gf2 lb2,e=.returned (.func (.func gf2) #[] lb2)∧(∀args w,(callFunc gf2 args).run Tryz.prog w=.ok (.enter gf2 args) w)∧TellsPairs (tellL q (s.flat p)) gf2 lb2 w' ∧ Below V.heap.size V w'):=fun a1 k1 W6 hV hN6 h0 hk6=>by
     have hF6:=HF2.out.keep (KpP.of_below hV)
     have hsk:KeysOk (s.flat p):=fun x hx=>hkeys x (parts_flat hmem x hx)
     cases s with
     | val p' x' =>
       obtain⟨rfl,hxs⟩:=hxk
       have hk1:=hsk (p++p', xv) (by simp[PS.flat])
       obtain⟨⟨kk,hkk,hks⟩,hxz⟩:=hk1
       refine (pairsOf_val M ⟨xa,p'.length,xc,xv,xn,xh,hxn⟩ hxs (.iface t (ptr b)) a1 (some ⟨gq,oq,none⟩) k1 cb (p++p') q W6 hN6 h0 hk6 hF6.nums hF6.nil hF6.cap).mono ?_
       rintro e w' ⟨bP2,bF2,bx2,rfl,g1,g2,g3,g4⟩
       refine⟨_,_,rfl,fun _ _=>by kernel_rfl,?_,hV.trans (g4.mono hV.size)⟩
       rw[PS.flat,tellL_val q (p++p') kk xv hkk]
       have hkk:p++p' = pathN kk:=hkk
       rw[hkk] at g1
       exact pairsOfV_tells bP2 bF2 bx2 a1 (some ⟨gq,oq,none⟩) k1 cb q kk xv _ _ _ w' g1 g2 g3 (by omega) hql (by have hxz:xv.size≤400:=hxz;omega)
     | sub p' mm =>
       obtain⟨rfl,hmn,hmu⟩:=hxk
       refine (pairsOf_sub Hk ok mm hmn M xa p'.length xc xn xh t b a1 k1 gq oq cb (p++p') q W6 (hmu.keep hV) hN6 h0 hk6 hF6.nums hF6.cap).mono ?_
       rintro e w' ⟨bA2,bP2,bF2,bS2,rfl,g1,g2⟩
       refine⟨_,_,rfl,fun _ _=>by kernel_rfl,?_,hV.trans (g2.mono hV.size)⟩
       have hlen:(p++p').length≤1000:=by
        have hlen:p.length+p'.length≤128:=hlen
        rw[List.length_append];omega
       exact hsub p' mm hmem (p++p') q bA2 bP2 bF2 bS2 w' (parts_sub hwf hmem).1 hsk hql hlen g1
    have HPre:Hid (tellL q ((pre.map Prod.fst).flatMap (PS.flat p))++tellL q (s.flat p) <+: tellL q (n.flat p)):=by
     obtain⟨r,hr⟩:=hlt
     refine⟨tellL q (r.flatMap (PS.flat p)),?_⟩
     rw[←tellL_append,←tellL_append,flat_parts n p,←hr]
     simp[List.flatMap_append]
    have HTot:Hid (∀A,J (tellL q ((pre.map Prod.fst).flatMap (PS.flat p))++tellL q (s.flat p)) A→J (tellL q (((pre++[(s,(⟨xa,s.path.length,xc,xv,xn,xh,hxn⟩:Pt))]).map Prod.fst).flatMap (PS.flat p))) A):=fun A h=>by
     rw[List.map_append,List.flatMap_append,tellL_append]
     simpa using h
    have HI1:=hide hi1
    have HI2:=hide hi2
    obtain⟨e1,e2,e3,e4,e5,e6,e7,e8⟩:=HC2.out V (Below.refl _ _)
    generalize tellL q ((pre.map Prod.fst).flatMap (PS.flat p))=L0 at *
    clear hxk hxN hx0 hxc hi1 hi2 hlt hbx
    gi_wp2_with fail
    refine⟨trivial,(CallsIn.inRound l2 (callsIn_wide.2 HCC.out)).mono ?_⟩
    rintro e w6 ⟨a1,k1,rfl,hn6,h06,hk6,hb6⟩
    have HO7:=hide (HPO.out a1 k1 w6 hb6 hn6 h06 hk6)
    rw[List.length_append] at HO7
    obtain⟨e1,e2,e3,e4,e5,e6,e7,e8⟩:=HC2.out w6 hb6
    clear hn6 h06 hk6 hb6 HPO HCC
    gi_wp2_with fail
    refine⟨trivial,(CallsIn.inRound l2 (callsIn_wide.2 HO7.out)).mono ?_⟩
    rintro e w7 ⟨gf2,lb2,rfl,eg2,hT2,hb7⟩
    have HT2:=hide hT2
    have hl7:l<w7.heap.size:=Nat.lt_of_lt_of_le (Nat.lt_of_lt_of_le hl5 HI2.out.size) hb7.size
    have hV7:=hb7.size
    have hr7:=(hb7.block _ hr2l).trans hr2
    have HY7:=hide ((hb7.block _ (aGe.1 HY5.out).1).trans HY5.out)
    have HJ7:=hide (hJ (l+1) _ _ _ (by omega) HI1.out (Turned.of_below hb7))
    have HK7:=hide (KpP.of_below hb7)
    have HPy7:Hid (Pays W5.heap.size V w7):=Pays.of_below hb7
    clear hT2 hb7 HO7 e1 e2 e3 e4 e5 e6 e7 e8 HC2
    gi_wp2_with fail
    refine rangeSN (α:=ByteArray×ByteArray) (w:=w7) (l0:=l2) (r0:=r2) rfl hr7 (by omega) (gf:=gf2) (lb:=lb2) rfl trivial eg2 (encs:=encPair) (fun _=>rfl) (Fx:=fun _ _=>True) (Kp:=KpP) (Done:=fun xs=>xs=tellL q (s.flat p)) (fun pre2 z=>pre2++[z] <+: tellL q (s.flat p))
     (fun pre2 A=>J (L0++pre2) A∧KpP V A∧Pays W5.heap.size V A∧A.heap[W.heap.size]? = some (.cells #[.func (.yield l) #[] #[]] 217 (0,0))) (fun c _ A=>c=.ret∧(∃xs,X xs A)∧KpP V A∧Pays W5.heap.size V A)
     (fun pre2 A A' h ht=>⟨hJ w7.heap.size _ _ _ hl7 h.1 ht,h.2.1.trans (KpP.of_turned ht),h.2.2.1.turn ht hV7,ht.same _ _ h.2.2.2 (.inr rfl)⟩) (fun c pre2 A A' h ht=>⟨h.1,h.2.1.imp fun xs hx=>hX w7.heap.size _ _ _ hl7 hx ht,h.2.2.1.trans (KpP.of_turned ht),h.2.2.2.turn ht hV7⟩) (fun _ _ _ _ _=>trivial) (fun A A2 A3 A4 h1 h2 h3=>KpP.turn A A2 A3 A4 h1 h2 h3)
     (fun l3 J3 X3 W3 hl3 hT3 hJ3 hX3 hY3 hJ30=>CallsIn.inRound l2 (HT2.out 6 l3 J3 X3 W3 hl3 (KpP.of_turned hT3) hJ3 hX3 (fun m' pre x W1 h1 h2 h3=>any_round (hY3 pre x W1 h1 h2 h3)) hJ30))
     ⟨by rw[List.append_nil];exact HJ7.out,HK7.out,HPy7.out,HY7.out⟩
     (fun z a' A=>∃B2:Nat,A.heap[B2]? = some (.cells #[.string z.1,.string z.2] 33 (0,0))∧a' = { tmps:=#[.func (.yield l) #[] #[],.pointer (some ⟨bA,0,none⟩),.pointer (some ⟨bP,0,none⟩),.pointer (some ⟨bF,0,none⟩),.pointer (some ⟨bS,0,none⟩),.pointer (some ⟨W.heap.size,0,none⟩),.pointer (some ⟨N,0,none⟩),.int .i64 0,.pointer (some ⟨Bx,0,none⟩),.slice a1 (p.length+s.path.length) k1,.pointer (some ⟨B2,0,none⟩),.int .i64 0,.pointer (some ⟨bA,0,none⟩),.bool false,.bool false,.slice ao p.length ca,.slice (some ⟨gq,oq,none⟩) q.length cb,.bool true,.bool false,.bool false,.tuple #[.iface t (ptr b),.int .i64 0],.map (some M),.agg #[.iface t (ptr b),.string g,ab,.int .i64 dp],.tuple #[.iface t (ptr b),.int .i64 0],.iface t (ptr b),.int .i64 0,.int .i64 0,.bool false,undef,undef,undef,undef,.iface t (ptr b),.func (.func gf) #[] #[.pointer (some ⟨N+1,0,none⟩)],.agg #[.slice xa s.path.length xc,.string xv,xn,.string xh],.slice ao p.length ca,.pointer (some ⟨Bx,0,none⟩),.slice xa s.path.length xc,.slice (some ⟨V.heap.size,0,none⟩) 2 2,.slice a1 (p.length+s.path.length) k1,.map (some M),.agg #[.slice xa s.path.length xc,.string xv,xn,.string xh],.iface t (ptr b),.slice a1 (p.length+s.path.length) k1,.slice (some ⟨gq,oq,none⟩) q.length cb,.func (.func gf2) #[] lb2,.agg #[.string z.1,.string z.2],.int .i64 0,undef,undef,undef,undef,undef],defers:=[] })
     ?assign2 (fun z a' A A' ⟨B2,k1,k2⟩ ht=>⟨B2,ht.same _ _ k1 (.inr rfl),k2⟩) ?body2 ?done2 ?stop2
    case assign2 =>
     intro l4 pre2 z A K hi _ hK
     simp only[encPair]
     gi_wp2
     exact hK _ _ ⟨A.heap.size,heap_alloc_new A _,rfl⟩ ⟨hJ (l+1) _ _ _ (by omega) hi.1 (Turned.of_below (below_alloc A _)),hi.2.1.trans (KpP.of_below (below_alloc A _)),hi.2.2.1.trans (Pays.of_below (below_alloc A _)),(Below.heap_alloc _ _ _ (aGe.1 hi.2.2.2).1).trans hi.2.2.2⟩ trivial (pays_alloc _ A _) (Turned.of_below (below_alloc A _))
    case body2 =>
     rintro l4 pre2 z a' A ⟨B2,hb2,rfl⟩ ⟨i1,i2,i3,i4⟩ _ hok _ _
     obtain⟨fn,tmps,assign,body,hy,hR⟩:=hY 4 (L0++pre2) z A i1 trivial (by
      rw[List.append_assoc]
      exact ((List.prefix_append_right_inj L0).2 hok).trans HPre.out)
     dsimp only[encPair] at hy
     have HR:=hide hR
     have HI:=hide (And.intro i2 i3)
     have f0:A.cell? ⟨W.heap.size,0,none⟩=some (.func (.yield l) #[] #[]):=cell_of_row A _ 0 _ _ (0,0) i4
     have f1:A.cell? ⟨B2,0,none⟩=some (.string z.1):=cell_of_row A _ 0 _ _ (0,0) hb2
     have f2:A.cell? ⟨B2,1,none⟩=some (.string z.2):=cell_of_row A _ 1 _ _ (0,0) hb2
     have HI4:=hide i4
     clear hR i1 i2 i3 i4 hok hb2
     gi_wp2_with fail
     refine RoundIn.mono (show RoundIn ((Fence.wide.inRound l2).inRound l4) 4 Tryz.prog l fn tmps assign body A _ from HR.out) ?_
     intro e A3 h
     obtain⟨tf,rfl,hz,hk3,hp3⟩:=h.one
     rcases hz with⟨rfl,hj3⟩|⟨rfl,hx3⟩
     ·have HF3:=hide (And.intro hj3 (And.intro hk3 hp3))
      clear hj3 hk3 hp3 h
      gi_wp2
      obtain⟨hj3,hk3,hp3⟩:=HF3.out
      refine⟨hp3.less (by omega),hk3,?_,HI.out.1.trans hk3,HI.out.2.trans (hp3.less (by omega)),hk3.same _ _ _ _ HI4.out (by decide) (by decide)⟩
      rw[←List.append_assoc]
      exact hj3
     ·have HF3:=hide (And.intro hx3 (And.intro hk3 hp3))
      clear hx3 hk3 hp3 h
      gi_wp2
      obtain⟨hx3,hk3,hp3⟩:=HF3.out
      exact⟨hp3.less (by omega),hk3,rfl,⟨_,hx3⟩,HI.out.1.trans hk3,HI.out.2.trans (hp3.less (by omega))⟩
    case done2 =>
     rintro xs A rfl ⟨i1,i2,i3,_⟩
     have HI:=hide (And.intro i1 (And.intro i2 i3))
     clear i1 i2 i3
     gi_wp2
     obtain⟨i1,i2,i3⟩:=HI.out
     exact⟨i3,i2,HTot.out _ i1,HI2.out.trans i2⟩
    case stop2 =>
     rintro c xs A ⟨rfl,i1,i2,i3⟩
     have HI:=hide (And.intro i1 (And.intro i2 i3))
     clear i1 i2 i3
     gi_wp2
     obtain⟨i1,i2,i3⟩:=HI.out
     exact⟨i3,i2,rfl,i1⟩
   case done =>
    rintro D xs V hD hs ⟨hi1,_⟩ hK
    gi_wp2
    refine⟨by simp,.inl ⟨_,_,rfl,run_takeDeferred hK,?_⟩⟩
    have hi3:=hJ W5.heap.size _ _ _ hl5 hi1 (Turned.put (o' := .deferred none) hD hK rfl)
    refine⟨_,results_none rfl _ _ _,⟨_,rfl⟩,.inl ⟨_,?_,hi3⟩⟩
    rw[hs,←flat_parts]
   case stop =>
    rintro D c xs V hD ⟨rfl,xs2,hx2⟩ hK
    gi_wp2
    refine⟨by simp,.inl ⟨_,_,rfl,run_takeDeferred hK,?_⟩⟩
    exact⟨_,results_none rfl _ _ _,⟨_,rfl⟩,.inr ⟨_,hX W5.heap.size _ _ _ hl5 hx2 (Turned.put (o' := .deferred none) hD hK rfl)⟩⟩
  ·rw[decide_eq_false hmr]
   gi_wp2
   refine⟨_,results_none rfl _ _ _,⟨_,rfl⟩,.inl ⟨[],?_,HJb.out _ HB3.out⟩⟩
   exact (tellL_none (fun x hx=>by
    obtain⟨r,e,_⟩:=(flat_mem n p x hwf).1 hx
    rw[e]
    exact plt_far p q r ((cmpL_neg _ _).1 (by omega)))).symm
theorem pairs_all (Hk:Nd→ByteArray→Prop)(ok:Nat→Prop):∀n:Nd,PairsOk Hk ok n
 | .nil=>pairs_step Hk ok .nil (fun p' m h=>by simp[Nd.partsL] at h)
 | .leaf q x=>pairs_step Hk ok (.leaf q x) (fun p' m h=>by simp[Nd.partsL] at h)
 | .ext q n=>pairs_step Hk ok (.ext q n) (fun p' m h=>by
   have ih:=pairs_all Hk ok n
   simp[Nd.partsL] at h
   obtain⟨_,rfl⟩:=h
   exact ih)
 | .br c x=>pairs_step Hk ok (.br c x) (fun p' m h=>by
   have ih:=fun i=>pairs_all Hk ok (c i)
   simp only[Nd.partsL,List.mem_append,List.mem_map] at h
   rcases h with h|⟨i,_,e⟩
   ·split at h<;>simp at h
   ·injection e with _ e
    subst e
    exact ih i)
end Go.Proofs.YthdjmldddjljfaaGreatDoor
namespace Go.Proofs.YthdjmldddjljfaaGreatDoor
open Go.RowKit Go.Shelf
def StrRow (w:World)(e:TypeId)(v:Value):Prop:=∀g,v.ownBlock=some g→∃cur,w.heap[g]? = some (.cells cur e (0,0))∧∀x∈cur.toList,∃s,x=Value.string s
theorem zero_str (k:Nat):∀x∈(Builtin.zeroCells #[.string e0,.string e0] k).toList,∃s,x=Value.string s:=by
 intro x hx
 simp only[Builtin.zeroCells,Array.toList_map,List.mem_map] at hx
 obtain⟨i,_,rfl⟩:=hx
 have h:i % 2=0∨i % 2=1:=by omega
 refine⟨e0,?_⟩
 show #[Value.string e0,Value.string e0][i % 2]! = _
 rcases h with h|h<;>rw[h]<;>rfl
theorem run_append_str {P:Program}(w:World)(base:Nat)(t ty e:TypeId)(i:TypeInfo)(z:Value)(bytes:Nat)(ht:P.underlying t=some (.slice e))(hi:P.info? e=some i)(hz:i.zero=some z)
  (hsize:i.size=2) (hby:i.bytes=bytes) (hzc:z.cells=#[.string e0,.string e0])
  (v:Value) (n:Nat) (xs:List Value) (hown:w.ownsRow base e 2 v n xs) (hstr:StrRow w e v) (hxs:∀x∈xs,∃s,x=Value.string s)
  (a:Addr) (c:Nat) (x1 x2:ByteArray) (hnews:∀j u,[Value.string x1,.string x2][j]? = some u→w.cell? (a.add j)=some u)
  (h63:n+1≤maxLen) (hbytes:(n+1)*bytes≤140737488355328) (hbase:base≤w.heap.size) :
  ∃g' c' w', (Builtin.append_ #[t,t] ty #[v,.slice (some a) 1 c]).run P w=.ok (.slice (some ⟨g', 0,none⟩) (n+1) c') w' ∧ w'.ownsRow base e 2 (.slice (some ⟨g', 0,none⟩) (n+1) c') (n+1) (xs++[.string x1,.string x2])∧w.grownBy w' v.ownBlock∧StrRow w' e (.slice (some ⟨g', 0,none⟩) (n+1) c'):=by
 have hl:[Value.string x1,.string x2].length=1 * 2:=rfl
 have h1:∀u∈[Value.string x1,.string x2],u.oneCell' = true:=fun u hu=>by
  simp at hu
  rcases hu with rfl|rfl<;>rfl
 have hns:∀u∈[Value.string x1,.string x2],∃s,u=Value.string s:=fun u hu=>by
  simp at hu
  rcases hu with rfl|rfl
  ·exact⟨_,rfl⟩
  ·exact⟨_,rfl⟩
 obtain⟨v', w', hr,h2,h3,h4⟩:=run_append_own (P:=P) w base t ty e i z 2 bytes ht hi hz hsize hby (by rw[hzc];rfl) (by omega) v n xs hown a 1 c _ hl hnews h1 h63 hbytes hbase
 obtain⟨g', c', rfl⟩:=ownsRow_succ h2
 refine⟨g', c', w', hr,h2,h3,?_⟩
 intro g hg
 obtain rfl:g' = g:=by simpa[Value.ownBlock] using hg
 clear hg
 rcases hown.2 with⟨rfl,rfl⟩|⟨g,cap,cur,rfl,hbg,hg,hnc,hcm,hcs,htake⟩
 ·have hx:xs=[]:=List.eq_nil_of_length_eq_zero (by simpa using hown.1)
  subst hx
  have hr2:=run_append_nil (P:=P) w t ty e i z ht hi hz a 1 c _ (by rw[hsize];rfl) hnews (by omega) (by omega) (by rw[hby];omega)
  rw[hr2] at hr
  injection hr with hv hw
  injection hv with hv _ _
  injection hv with hv
  injection hv with hv
  subst hv
  subst hw
  refine⟨_,heap_alloc_new w.drew _,fun x hx=>?_⟩
  rw[Array.toList_append,List.mem_append] at hx
  rcases hx with hx|hx
  ·exact hns x hx
  ·rw[hzc] at hx;exact zero_str _ x hx
 ·by_cases hroom:n+1≤cap
  ·have hfit:n*i.size + [Value.string x1,.string x2].length≤cur.size:=by rw[hl,hcs,hsize];omega
   have hr2:=run_append_room (P:=P) w t ty e i ht hi g n cap cur hg a 1 c _ (by rw[hsize];rfl) hnews h1 hroom hfit
   rw[hr2] at hr
   injection hr with hv hw
   injection hv with hv _ _
   injection hv with hv
   injection hv with hv
   subst hv
   subst hw
   obtain⟨cur', k1,k2⟩:=hstr g rfl
   rw[hg] at k1
   injection k1 with k1
   injection k1 with k1 _ _
   subst k1
   refine⟨_,setRow_heap w g cur _ e _ hg,fun x hx=>?_⟩
   simp only[List.append_assoc,List.mem_append] at hx
   rcases hx with hx|hx|hx
   ·exact k2 x (List.mem_of_mem_take hx)
   ·exact hns x hx
   ·exact k2 x (List.mem_of_mem_drop hx)
  ·have holds:∀j u,xs[j]? = some u→w.cell? ((⟨g,0,none⟩:Addr).add j)=some u:=hown.cells (g:=g) rfl
   have hr2:=run_append_grow (P:=P) w t ty e i z ht hi hz ⟨g,0,none⟩ n cap xs (by rw[hsize];exact hown.1) holds a 1 c _ (by rw[hsize];rfl) hnews (by omega) (by unfold maxLen at h63;omega) (growslice_fits (by omega) (by rw[hby];exact hbytes))
   rw[hr2] at hr
   injection hr with hv hw
   injection hv with hv _ _
   injection hv with hv
   injection hv with hv
   subst hv
   subst hw
   refine⟨_,heap_alloc_new w.drew _,fun x hx=>?_⟩
   simp only[Array.toList_append,List.append_assoc,List.mem_append] at hx
   rcases hx with hx|hx|hx
   ·exact hxs x hx
   ·exact hns x hx
   ·rw[hzc] at hx;exact zero_str _ x hx
theorem wpListIn_append_run {F:Fence}{n:Nat}{P:Program}{w:World}{ops:Array Oper}{rest:List Oper}{o:Oper}{a:Act}{Q:Exit→Act→World→Prop}(hgd:o.guard=none)(s x:Operand)(t:TypeId)
  (hop:o.op=.call { callee:=.builtin .append,args:=#[s,x],argTypes:=#[t,t] }) (v sv v' : Value) (w' : World) (hs:a.eval s=v) (hx:a.eval x=sv)
  (hrun:(Builtin.append_ #[t,t] o.type #[v,sv]).run P w=.ok v' w') (h:wpListIn F n P ops Q rest (a.put o.dst v') w'):wpListIn F n P ops Q (o :: rest) a w:=by
 refine wpListIn_plain hgd fun K hK' => ?_
 unfold Oper.wpIn
 refine⟨?_,?_⟩
 ·simp[Oper.about,hop,resolve,Target.leads,Sem.run_pure]
 ·rw[Oper.semAt_plain F _ _ (by rw[hop];intro c hc';cases hc')]
  simp[execOp,hop,resolve,invoke,builtin,hs,hx,hrun,Result.andThen]
  exact hK' _ _ h
def pairCells (xs:List (ByteArray×ByteArray)):List Value:=xs.flatMap fun x=>[.string x.1,.string x.2]
theorem pairCells_snoc (xs:List (ByteArray×ByteArray))(x:ByteArray×ByteArray):pairCells (xs++[x])=pairCells xs++[.string x.1,.string x.2]:=by simp[pairCells]
theorem pairCells_str (xs:List (ByteArray×ByteArray)):∀x∈pairCells xs,∃s,x=Value.string s:=fun x hx=>by
 obtain⟨y,_,h⟩:=List.mem_flatMap.1 hx
 simp at h
 rcases h with rfl|rfl
 ·exact⟨_,rfl⟩
 ·exact⟨_,rfl⟩
theorem infoPair:(Tryz.prog.info? 33).map (fun i=>(i.zero,i.size,i.bytes))=some (some (.agg #[.string ⟨#[]⟩,.string ⟨#[]⟩]),2,32):=by kernel_rfl
structure EaI (w0:World)(fb:Nat)(pre:List (ByteArray×ByteArray))(W:World):Prop where
 bel:Below w0.heap.size w0 W
 own:∃v,W.heap[fb]? = some (.cells #[v] 27 (0,0))∧W.ownsRow (fb+1) 33 2 v pre.length (pairCells pre)∧StrRow W 33 v
theorem EaI.turn {w0:World}{fb B:Nat}{pre:List (ByteArray×ByteArray)}{A A' : World}(h:EaI w0 fb pre A)(hB:w0.heap.size≤B)(ht:Turned B A A'):EaI w0 fb pre A' := by
 obtain⟨v,h1,h2,h3⟩:=h.own
 refine⟨⟨ht.os.trans h.bel.os,ht.tape.trans h.bel.tape,ht.output.trans h.bel.output,Nat.le_trans h.bel.size ht.size,fun k hk=>?_⟩,v,ht.same _ _ h1 (.inr rfl),⟨h2.1,?_⟩,fun g hg=>?_⟩
 ·rw[←h.bel.block k hk]
  have hlt:k<A.heap.size:=Nat.lt_of_lt_of_le hk h.bel.size
  rw[Array.getElem?_eq_getElem hlt]
  exact ht.same k _ (Array.getElem?_eq_getElem hlt) (.inl (by omega))
 ·rcases h2.2 with h4|⟨g,c,cur,k1,k2,k3,k4⟩
  ·exact .inl h4
  ·exact .inr ⟨g,c,cur,k1,k2,ht.same _ _ k3 (.inr rfl),k4⟩
 ·obtain⟨cur,k1,k2⟩:=h3 g hg
  exact⟨cur,ht.same _ _ k1 (.inr rfl),k2⟩
theorem ea_fin {w0 W w1:World}{fb B:Nat}{pre:List (ByteArray×ByteArray)}{x:ByteArray×ByteArray}{v:Value}{g' c' : Nat}{tc:Array Value}(hw0:w0.heap.size≤fb)(hfb:fb<B)(hb:Below w0.heap.size w0 W)(hbox:W.heap[fb]? = some (.cells #[v] 27 (0,0)))(hrow:W.ownsRow (fb+1) 33 2 v pre.length (pairCells pre))(hst:StrRow W 33 v)
  (ho:w1.ownsRow (fb+1) 33 2 (.slice (some ⟨g', 0,none⟩) (pre.length+1) c') (pre.length+1) (pairCells pre++[.string x.1,.string x.2])) (hg:(W.alloc (.cells tc 33)).grownBy w1 v.ownBlock) (hs1:StrRow w1 33 (.slice (some ⟨g', 0,none⟩) (pre.length+1) c')) :
  (w1.heap[fb]? = some (.cells #[v] 27 (0,0))∧∀k o,W.heap[k]? = some o→k<fb→(w1.setCell ⟨fb,0,none⟩ (.slice (some ⟨g', 0,none⟩) (pre.length+1) c')).heap[k]? = some o∧w1.heap[k]? = some o)∧Pays B W (w1.setCell ⟨fb,0,none⟩ (.slice (some ⟨g', 0,none⟩) (pre.length+1) c'))∧KpP W (w1.setCell ⟨fb,0,none⟩ (.slice (some ⟨g', 0,none⟩) (pre.length+1) c'))∧EaI w0 fb (pre++[x]) (w1.setCell ⟨fb,0,none⟩ (.slice (some ⟨g', 0,none⟩) (pre.length+1) c')):=by
 have hlt:=(aGe.1 hbox).1
 have old:∀(k:Nat) o,W.heap[k]? = some o→some k≠v.ownBlock→w1.heap[k]? = some o:=fun k o h hne=>by
  have hk:=(aGe.1 h).1
  rw[hg.block k (by simp;omega) hne,Below.heap_alloc _ _ _ hk]
  exact h
 have hnb:some fb≠v.ownBlock:=fun e=>by
  have:=own_ge hrow (Nat.le_refl _) _ e.symm
  omega
 have hb1:=old _ _ hbox hnb
 have hgs:=hg.size
 simp only[World.size_alloc] at hgs
 generalize hV:Value.slice (some ⟨g', 0,none⟩) (pre.length+1) c' = V at *
 have hsz:(w1.setCell ⟨fb,0,none⟩ V).heap.size=w1.heap.size:=by simp[World.setCell]
 have same:∀(k:Nat) cs t fr,W.heap[k]? = some (Obj.cells cs t fr)→t≠33→t≠27→(w1.setCell ⟨fb,0,none⟩ V).heap[k]? = some (Obj.cells cs t fr):=by
  intro k cs t fr h n1 n2
  have hne:some k≠v.ownBlock:=fun e=>by
   obtain⟨cs', hcs,_⟩:=hst k e.symm
   rw[h] at hcs
   injection hcs with hcs
   injection hcs with _ ht _
   exact n1 ht
  have hkb:k≠fb:=fun e=>by
   subst e
   rw[hbox] at h
   injection h with h
   injection h with _ ht _
   exact n2 ht.symm
  rw[Below.heap_setCell _ _ _ _ hkb]
  exact old k _ h hne
 have low:∀k o,W.heap[k]? = some o→k<fb→w1.heap[k]? = some o:=fun k o ho hk=>old k o ho (fun e=>by
  have:=own_ge hrow (Nat.le_refl _) _ e.symm
  omega)
 refine⟨⟨hb1,fun k o ho hk=>⟨by rw[Below.heap_setCell _ _ _ _ (fun e=>by have e:k=fb:=e;omega)];exact low k o ho hk,low k o ho hk⟩⟩,?_,⟨by rw[hsz];omega,same,?_⟩,⟨?_,V,?_,?_,?_⟩⟩
 ·intro k o hk h hc
  have hne:some k≠v.ownBlock:=fun e=>by
   obtain⟨cs,hcs,_⟩:=hst k e.symm
   rw[h] at hcs
   injection hcs with hcs
   subst hcs
   cases hc
  rw[Below.heap_setCell _ _ _ _ (fun e=>by have e:k=fb:=e;omega)]
  exact old k o h hne
 ·intro a k i hc
  obtain⟨o,hob,hoc⟩:=cell_block hc
  have hne:some a.block≠v.ownBlock:=fun e=>by
   obtain⟨cur,k1,k2⟩:=hst _ e.symm
   unfold World.cell? at hc
   rw[k1] at hc
   simp only at hc
   split at hc
   ·cases hc
   ·obtain⟨s,hs⟩:=k2 _ (Array.mem_toList_iff.2 (Array.mem_of_getElem? hc))
    cases hs
  have hkb:a.block≠fb:=fun e=>by
   unfold World.cell? at hc
   rw[e,hbox] at hc
   simp only at hc
   split at hc
   ·cases hc
   ·have hmem:=Array.mem_of_getElem? hc
    simp at hmem
    rcases hrow.2 with⟨h,_⟩|⟨g,cp,cur,h,_⟩<;>rw[h] at hmem<;>cases hmem
  exact (World.cell?_of_block ((Below.heap_setCell _ _ _ _ hkb).trans ((old _ _ hob hne).trans hob.symm))).trans hc
 ·have h1:Below w0.heap.size w0 w1:=(hb.alloc hb.size _).grown hg (by have:=hb.size;simp;omega) (own_ge hrow (by omega))
  exact h1.setCell (p:=⟨fb,0,none⟩) hw0 _
 ·exact heap_setCell_same w1 fb 0 _ 27 V hb1
 ·rw[List.length_append,pairCells_snoc]
  refine⟨ho.1,?_⟩
  rcases ho.2 with h|⟨g,c,cur,k1,k2,k3,k4⟩
  ·exact .inl h
  ·exact .inr ⟨g,c,cur,k1,k2,by rw[Below.heap_setCell _ _ _ _ (fun e=>by have e:g=fb:=e;omega)];exact k3,k4⟩
 ·intro g hgg
  obtain⟨cur,k1,k2⟩:=hs1 g hgg
  have:=own_ge ho (Nat.le_refl _) g hgg
  exact⟨cur,by rw[Below.heap_setCell _ _ _ _ (fun e=>by have e:g=fb:=e;omega)];exact k1,k2⟩
theorem StrRow.alloc {w:World}{e:TypeId}{v:Value}(h:StrRow w e v)(o:Obj):StrRow (w.alloc o) e v:=fun g hg=>by
 obtain⟨cur,k1,k2⟩:=h g hg
 exact⟨cur,(Below.heap_alloc _ _ _ (aGe.1 k1).1).trans k1,k2⟩
end Go.Proofs.YthdjmldddjljfaaGreatDoor
namespace Go.Proofs.YthdjmldddjljfaaGreatDoor
open Go.RowKit Go.Shelf
attribute [local go_sem] Oper.semAt_some
def eachL (n:Nd)(s:ByteArray)(most:Int):List (ByteArray×ByteArray):=match firstB s with
 | none=>[]
 | some f=>if most≤0 then [] else (tellL (pathN f) (n.flat [])).take (min most 100).toNat
def EachPost (n:Nd)(s:ByteArray)(most:Int)(w:World)(e:Ending)(w' : World):Prop:=∃v,e=.returned (.tuple #[v,.int .i64 0])∧w'.ownsRow w.heap.size 33 2 v (eachL n s most).length (pairCells (eachL n s most))∧Below w.heap.size w w'
theorem EachPost.none {n:Nd}{s:ByteArray}{most:Int}{w w' : World}(h:eachL n s most=[])(hb:Below w.heap.size w w'):EachPost n s most w (.returned (.tuple #[.slice .none 0 0,.int .i64 0])) w' :=
 ⟨_,rfl,by rw[h];exact World.ownsRow_nil _ _ _ _,hb⟩
def calmQ (Q:Exit→Act→World→Prop):Exit→Act→World→Prop
 | .normal,a,w=>Q .normal a w
 | _,_,_=>False
theorem two_cells {w:World}{A B:Nat}{T1 T2:TypeId}{x y:Value}(hA:w.heap[A]? = some (.cells #[x] T1 (0,0)))(hB:w.heap[B]? = some (.cells #[y] T2 (0,0)))(hne:A≠B)(u v:Value) :
  ((w.setCell ⟨A,0,none⟩ u).setCell ⟨B,0,none⟩ v).cell? ⟨A,0,none⟩=some u∧((w.setCell ⟨A,0,none⟩ u).setCell ⟨B,0,none⟩ v).cell? ⟨B,0,none⟩=some v:=by
 have h1:=heap_setCell_same w A 0 _ T1 u hA
 have h2:(w.setCell ⟨A,0,none⟩ u).heap[B]? = some (.cells #[y] T2 (0,0)):=(Below.heap_setCell _ _ _ _ (fun e=>by have e:B=A:=e;exact hne e.symm)).trans hB
 have h3:=heap_setCell_same _ B 0 _ T2 v h2
 have h4:((w.setCell ⟨A,0,none⟩ u).setCell ⟨B,0,none⟩ v).heap[A]? = some (.cells #[u] T1 (0,0)):=(Below.heap_setCell _ _ _ _ (fun e=>by have e:A=B:=e;exact hne e)).trans h1
 exact⟨cell_of_row _ _ 0 _ _ (0,0) h4,cell_of_row _ _ 0 _ _ (0,0) h3⟩
theorem below_pair {B:Nat}{a w:World}(h:Below B a w){p q:Nat}(hp:B≤p)(hq:B≤q)(u v:Value):Below B a ((w.setCell ⟨p,0,none⟩ u).setCell ⟨q,0,none⟩ v):=(h.setCell (p:=⟨p,0,none⟩) hp u).setCell (p:=⟨q,0,none⟩) hq v
def EachBx (w:World)(most:Int)(A:World):Prop:=A.heap[w.heap.size]? = some (.cells #[.int .i64 most] 3 (0,0))∧A.heap[w.heap.size+1]? = some (.cells #[.slice none 0 0] 27 (0,0))∧A.heap[w.heap.size+1+1]? = some (.cells #[.int .i64 0] 29 (0,0))
theorem EachBx.turn {w:World}{most:Int}{B:Nat}{A A' : World}(h:EachBx w most A)(ht:Turned B A A'):EachBx w most A' := ⟨ht.same _ _ h.1 (.inr rfl),ht.same _ _ h.2.1 (.inr rfl),ht.same _ _ h.2.2 (.inr rfl)⟩
theorem each_fin {w A:World}{fb D:Nat}{most:Int}{pre:List (ByteArray×ByteArray)}{v:Value}(hb:Below w.heap.size w A)(bx:EachBx w most A)(hrow:A.ownsRow (fb+1) 33 2 v pre.length (pairCells pre))(hfl:w.heap.size+1+1 < fb)(hD:fb<D)(hd:A.heap[D]? = some (.deferred (some []))) :
  ((A.setCell ⟨w.heap.size+1,0,none⟩ v).setCell ⟨w.heap.size+1+1,0,none⟩ (.int .i64 0)).heap[D]? = some (.deferred (some []))∧(((A.setCell ⟨w.heap.size+1,0,none⟩ v).setCell ⟨w.heap.size+1+1,0,none⟩ (.int .i64 0)).putObj D (.deferred none)).cell? ⟨w.heap.size+1,0,none⟩=some v ∧
  (((A.setCell ⟨w.heap.size+1,0,none⟩ v).setCell ⟨w.heap.size+1+1,0,none⟩ (.int .i64 0)).putObj D (.deferred none)).cell? ⟨w.heap.size+1+1,0,none⟩=some (.int .i64 0)∧(((A.setCell ⟨w.heap.size+1,0,none⟩ v).setCell ⟨w.heap.size+1+1,0,none⟩ (.int .i64 0)).putObj D (.deferred none)).ownsRow w.heap.size 33 2 v pre.length (pairCells pre) ∧
  Below w.heap.size w (((A.setCell ⟨w.heap.size+1,0,none⟩ v).setCell ⟨w.heap.size+1+1,0,none⟩ (.int .i64 0)).putObj D (.deferred none)):=by
 have oth:∀k,k≠w.heap.size+1→k≠w.heap.size+1+1→((A.setCell ⟨w.heap.size+1,0,none⟩ v).setCell ⟨w.heap.size+1+1,0,none⟩ (.int .i64 0)).heap[k]? = A.heap[k]?:=fun k h1 h2=>(Below.heap_setCell _ _ _ _ (fun e=>h2 e)).trans (Below.heap_setCell _ _ _ _ (fun e=>h1 e))
 have hdd:=(oth D (by omega) (by omega)).trans hd
 obtain⟨k1,k2⟩:=two_cells bx.2.1 bx.2.2 (by omega) v (.int .i64 0)
 refine⟨hdd,?_,?_,⟨hrow.1,?_⟩,?_⟩
 ·exact (World.cell?_of_block (World.putObj_heap_other (by show w.heap.size+1≠D;omega))).trans k1
 ·exact (World.cell?_of_block (World.putObj_heap_other (by show w.heap.size+1+1≠D;omega))).trans k2
 ·rcases hrow.2 with h|⟨g,c,cur,j1,j2,j3,j4⟩
  ·exact .inl h
  ·refine .inr ⟨g,c,cur,j1,by omega,?_,j4⟩
   rw[World.putObj_heap_other (fun e=>by rw[e,hd] at j3;cases j3)]
   exact (oth g (by omega) (by omega)).trans j3
 ·have h1:=below_pair hb (p:=w.heap.size+1) (q:=w.heap.size+1+1) (by omega) (by omega) v (.int .i64 0)
  exact⟨h1.os,h1.tape,h1.output,by simpa using h1.size,fun k hk=>(World.putObj_heap_other (by omega)).trans (h1.block k hk)⟩
theorem each_results {tmps:Array Value}{w:World}{A B:Nat}{v1 v2:Value}(h6:tmps[6]? = some (.pointer (some ⟨A,0,none⟩)))(h7:tmps[7]? = some (.pointer (some ⟨B,0,none⟩)))(h1:w.cell? ⟨A,0,none⟩=some v1)(h2:w.cell? ⟨B,0,none⟩=some v2) :
  (results Tryz.f74 tmps).run Tryz.prog w=.ok (.tuple #[v1,v2]) w:=by
 simp[results,Tryz.results74,go_sem,h6,h7,h1,h2]
set_option maxRecDepth 100000 in
theorem tEach_any (Hk:Nd→ByteArray→Prop)(ok:Nat→Prop)(T M:Nat)(n:Nd)(s:ByteArray)(most:Int)(w:World)(hA:TreeAt Hk ok w T (.map (some M)) n)(hO:TOk n)(hkeys:KeysOk (n.flat []))(hs:s.size≤9223372036854775807)(hm1:-9223372036854775808≤most)(hm2:most≤9223372036854775807) :
  Calls Tryz.prog 74 #[ptr T,.string s,.int .i64 most] w fun e w' => EachPost n s most w e w' := by
 refine (callsIn_wide (n:=9)).1 ?_
 have hmo:Tryz.prog.follows .mixedOrders=true:=by kernel_rfl
 have hTl:=hA.lt
 obtain⟨u,hT,hn⟩:=hA.held
 have HC:Hid (∀W,Below w.heap.size w W→W.cell? ⟨T,0,none⟩=some (.map (some M))∧W.cell? ⟨T,1,none⟩=some u∧W.cell? ⟨T,2,none⟩=some (.string e0)):=fun W hW=>by
  have h:=(hW.block T hTl).trans hT
  exact⟨cell_of_row _ _ 0 _ _ (0,0) h,cell_of_row _ _ 1 _ _ (0,0) h,cell_of_row _ _ 2 _ _ (0,0) h⟩
 obtain⟨o1,ho1⟩:∃o1:Obj,o1=.cells #[.int .i64 most] 3:=⟨_,rfl⟩
 obtain⟨o2,ho2⟩:∃o2:Obj,o2=.cells #[.slice none 0 0] 27:=⟨_,rfl⟩
 obtain⟨o3,ho3⟩:∃o3:Obj,o3=.cells #[.int .i64 0] 29:=⟨_,rfl⟩
 have HF:=hide (three_boxes w o1 o2 o3)
 rw[ho1,ho2,ho3] at HF
 clear ho1 ho2 ho3
 unfold ptr
 refine callsIn_of_wp_marks Tryz.func74 rfl trivial ?_ rfl
 simp only[Tryz.ntmps74,List.size_toArray,List.length_cons,List.length_nil,Nat.reduceAdd,Nat.reduceSub,Array.replicate_succ,Array.replicate_zero,List.push_toArray,List.append_toArray,List.nil_append,List.cons_append]
 gi_wp2_with fail
 refine⟨trivial,(callsIn_wide.2 (firstKey_any s _ hs)).mono ?_⟩
 rintro e w1 ⟨rfl,hb1⟩
 obtain⟨k1,k2,k3,kb⟩:=HF.out
 have hz:∀o1 o2 o3:Obj,w.heap.size+1+1 < (((w.alloc o1).alloc o2).alloc o3).heap.size:=fun o1 o2 o3=>by simp
 have hbw:=kb.trans (hb1.mono kb.size)
 have HB1:=hide hbw
 have q1:=(hb1.block _ (Nat.lt_trans (by omega) (hz _ _ _))).trans k1
 have q2:=(hb1.block _ (Nat.lt_trans (by omega) (hz _ _ _))).trans k2
 have q3:=(hb1.block _ (hz _ _ _)).trans k3
 have HQ:=hide (And.intro q1 (And.intro q2 q3))
 have r1:w1.cell? ⟨w.heap.size,0,none⟩=some (.int .i64 most):=cell_of_row w1 _ 0 _ _ (0,0) q1
 have r2:w1.cell? ⟨w.heap.size+1,0,none⟩=some (.slice none 0 0):=cell_of_row w1 _ 0 _ _ (0,0) q2
 have r3:w1.cell? ⟨w.heap.size+1+1,0,none⟩=some (.int .i64 0):=cell_of_row w1 _ 0 _ _ (0,0) q3
 have z2:w1.frozen? ⟨w.heap.size+1,0,none⟩=false:=frozen_of_row w1 _ 0 _ _ q2
 have z3:w1.frozen? ⟨w.heap.size+1+1,0,none⟩=false:=frozen_of_row w1 _ 0 _ _ q3
 clear hb1 kb k1 k2 k3 q1 q2 q3 hz hbw
 unfold firstE
 cases hf:firstB s with
 | none =>
   have HE:Hid (eachL n s most=[]):=by show _=_;unfold eachL;rw[hf]
   dsimp only
   gi_wp2
   obtain⟨q1,q2,q3⟩:=HQ.out
   obtain⟨k1,k2⟩:=two_cells q2 q3 (by omega) (.slice .none 0 0) (.int .i64 0)
   exact⟨_,each_results rfl rfl k1 k2,EachPost.none HE.out (below_pair HB1.out (by omega) (by omega) _ _)⟩
 | some f =>
   dsimp only
   by_cases hmost:most≤0
   ·have HE:Hid (eachL n s most=[]):=by show _=_;unfold eachL;rw[hf];exact if_pos hmost
    gi_wp2
    obtain⟨q1,q2,q3⟩:=HQ.out
    obtain⟨k1,k2⟩:=two_cells q2 q3 (by omega) (.slice .none 0 0) (.int .i64 0)
    exact⟨_,each_results rfl rfl k1 k2,EachPost.none HE.out (below_pair HB1.out (by omega) (by omega) _ _)⟩
   ·gi_wp2_with fail
    obtain⟨fb,hfb⟩:∃fb,fb=w1.heap.size:=⟨_,rfl⟩
    obtain⟨W2,hW2⟩:∃W2,W2=w1.alloc (.cells #[.slice none 0 0] 27):=⟨_,rfl⟩
    have hb2:Below w1.heap.size w1 W2:=by rw[hW2];exact below_alloc _ _
    have f2:W2.heap[fb]? = some (.cells #[.slice none 0 0] 27 (0,0)):=by rw[hW2,hfb];exact heap_alloc_new w1 _
    have hfl:w.heap.size+1+1 < fb:=by
     rw[hfb]
     exact (aGe.1 HQ.out.2.2).1
    have hw2:Below w.heap.size w W2:=HB1.out.trans (hb2.mono HB1.out.size)
    have HQ2:Hid (W2.heap[w.heap.size]? = some (.cells #[.int .i64 most] 3 (0,0))∧W2.heap[w.heap.size+1]? = some (.cells #[.slice none 0 0] 27 (0,0))∧W2.heap[w.heap.size+1+1]? = some (.cells #[.int .i64 0] 29 (0,0))):=by
     obtain⟨q1,q2,q3⟩:=HQ.out
     exact⟨(hb2.block _ (aGe.1 q1).1).trans q1,(hb2.block _ (aGe.1 q2).1).trans q2,(hb2.block _ (aGe.1 q3).1).trans q3⟩
    have HW2:=hide hw2
    have HF2:=hide f2
    have HE:Hid (eachL n s most=(tellL (pathN f) (n.flat [])).take (min most 100).toNat):=by show _=_;unfold eachL;rw[hf];exact if_neg (by omega)
    have hfs:f.size≤64:=by
     unfold firstB at hf
     split at hf
     ·injection hf with hf;rw[←hf];assumption
     ·split at hf
      ·cases hf
      ·injection hf with hf
       have hcl:=cutE_le s 64
       rw[←hf,ByteArray.size_append,strOfNums_size,ByteArray.size_extract]
       simp only[List.length_cons,List.length_nil]
       omega
    have HOf:Hid (∀W,Below W2.heap.size W2 W→Calls Tryz.prog 44 #[.string f] W fun e w' => ∃g,e=.returned (.slice (some ⟨g,0,none⟩) (pathN f).length (2 * f.size))∧Nums w' (some ⟨g,0,none⟩) (pathN f)∧Below W2.heap.size W2 w'):=fun W hW=>by
     refine (of_nums f W (by omega)).mono ?_
     rintro e w' ⟨g,rfl,h1,_,h2⟩
     exact⟨g,rfl,h1,hW.trans (h2.mono hW.size)⟩
    have HPr:Hid (∀W g,Below W2.heap.size W2 W→Nums W (some ⟨g,0,none⟩) (pathN f)→Calls Tryz.prog 107 #[.map (some M),.agg #[u,.string e0,.nilIface,.int .i64 0],.slice none 0 0,.slice (some ⟨g,0,none⟩) (pathN f).length (2 * f.size)] W fun e w' => ∃bA bP bF bS,e=.returned (.func (.func 128) #[] #[.pointer (some ⟨bA,0,none⟩),.pointer (some ⟨bP,0,none⟩),.pointer (some ⟨bF,0,none⟩),.pointer (some ⟨bS,0,none⟩)])∧TellsPairs (tellL (pathN f) (n.flat [])) 128 #[.pointer (some ⟨bA,0,none⟩),.pointer (some ⟨bP,0,none⟩),.pointer (some ⟨bF,0,none⟩),.pointer (some ⟨bS,0,none⟩)] w' ∧ Below W2.heap.size W2 w'):=fun W g hW hN=>by
     have hNw:=(hn.keep HW2.out).keep hW
     refine (pairs_made Hk ok n M u e0 .nilIface 0 none 0 g 0 (2 * f.size) [] (pathN f) W hNw (fun _=>rfl) (Nums.nil (fun a e=>by cases e)) (fun _=>rfl) (Nat.le_refl _) hN (by rw[pathN_length];exact Nat.le_refl _)).mono ?_
     rintro e w' ⟨bA,bP,bF,bS,rfl,h2,h3⟩
     exact⟨bA,bP,bF,bS,rfl,pairs_all Hk ok n [] (pathN f) bA bP bF bS w' hO.wf hkeys (by rw[pathN_length];omega) (by simp) h2,hW.trans (h3.mono hW.size)⟩
    have HC2:Hid (∀W,Below W2.heap.size W2 W→W.cell? ⟨T,0,none⟩=some (.map (some M))∧W.cell? ⟨T,1,none⟩=some u∧W.cell? ⟨T,2,none⟩=some (.string e0)):=fun W hW=>HC.out W (HW2.out.trans (hW.mono HW2.out.size))
    have hnd:=hn.isNd
    obtain⟨L,hL⟩:∃L,L=tellL (pathN f) (n.flat []):=⟨_,rfl⟩
    obtain⟨K,hK⟩:∃K:Nat,K=(min most 100).toNat:=⟨_,rfl⟩
    have hK1:(K:Int)=min most 100:=by omega
    have hK0:0 < K:=by omega
    have hK2:K≤100:=by omega
    rw[←hL] at HPr HE
    rw[←hK] at HE
    have HK:=hide (And.intro hK1 (And.intro hK0 hK2))
    simp only[←hW2,←hfb]
    obtain⟨cT0,cT1,cT2⟩:=HC2.out W2 (Below.refl _ _)
    clear hK hL hf hn hA hO hkeys hT hb2 hw2 hW2 hfb HQ HC HB1 f2 r1 r2 r3 z2 z3 hs
    clear HF
    generalize (pathN f).length=pl at *
    refine wpIn_mono (Q:=calmQ (fun _ a' w' => ∃A31 A32 g bA bP bF bS,a' = { tmps:=#[.pointer (some ⟨T,0,none⟩),.string s,.int .i64 most,undef,undef,.pointer (some ⟨w.heap.size,0,none⟩),.pointer (some ⟨w.heap.size+1,0,none⟩),.pointer (some ⟨w.heap.size+1+1,0,none⟩),.string f,.bool true,.pointer (some ⟨fb,0,none⟩),undef,undef,.tuple #[.string f,.bool true],.string s,.tuple #[.string f,.bool true],.string f,.bool true,.bool true,.bool false,.bool false,.int .i64 most,.bool false,.bool false,.pointer (some ⟨T,0,none⟩),.pointer (some ⟨T,0,none⟩),.pointer (some ⟨T,0,none⟩),.map (some M),.pointer (some ⟨T,0,none⟩),.pointer (some ⟨T,0,none⟩),.pointer (some ⟨T,1,none⟩),A31,A32,.string f,.slice (some ⟨g,0,none⟩) pl (2 * f.size),.func (.func 128) #[] #[.pointer (some ⟨bA,0,none⟩),.pointer (some ⟨bP,0,none⟩),.pointer (some ⟨bF,0,none⟩),.pointer (some ⟨bS,0,none⟩)],undef,undef,undef,undef,undef,undef,undef,undef,undef,undef,undef,undef,undef,undef,undef],defers:=[] }∧TellsPairs L 128 #[.pointer (some ⟨bA,0,none⟩),.pointer (some ⟨bP,0,none⟩),.pointer (some ⟨bF,0,none⟩),.pointer (some ⟨bS,0,none⟩)] w' ∧ Below W2.heap.size W2 w')) ?reg ?rest
    case reg =>
     rcases hnd with rfl|⟨ut,ub,rfl⟩
     ·gi_region_with (first
      | (refine⟨trivial,(callsIn_wide.2 (HOf.out _ ((Below.refl _ _).drew))).mono ?_⟩;rintro e w3 ⟨g,rfl,hnu,hb3⟩;(have HN3:=hide hnu);(have HB3:=hide hb3);(obtain⟨cT0,cT1,cT2⟩:=HC2.out w3 hb3);clear hnu hb3)
      | (refine⟨trivial,(callsIn_wide.2 (HPr.out _ g HB3.out HN3.out)).mono ?_⟩;rintro e w4 ⟨bA,bP,bF,bS,rfl,hp4,hb4⟩;(have HP4:=hide hp4);(have HB4:=hide hb4);clear hp4 hb4))
      all_goals exact⟨_,_,g,bA,bP,bF,bS,rfl,HP4.out,HB4.out⟩
     ·unfold ptr at *
      gi_region_with (first
      | (refine⟨trivial,(callsIn_wide.2 (HOf.out _ ((Below.refl _ _).drew))).mono ?_⟩;rintro e w3 ⟨g,rfl,hnu,hb3⟩;(have HN3:=hide hnu);(have HB3:=hide hb3);(obtain⟨cT0,cT1,cT2⟩:=HC2.out w3 hb3);clear hnu hb3)
      | (refine⟨trivial,(callsIn_wide.2 (HPr.out _ g HB3.out HN3.out)).mono ?_⟩;rintro e w4 ⟨bA,bP,bF,bS,rfl,hp4,hb4⟩;(have HP4:=hide hp4);(have HB4:=hide hb4);clear hp4 hb4))
      all_goals exact⟨_,_,g,bA,bP,bF,bS,rfl,HP4.out,HB4.out⟩
    case rest =>
     intro e a' w4 hq
     cases e with
     | ret=>exact hq.elim
     | exit _=>exact hq.elim
     | goto _=>exact hq.elim
     | panic _=>exact hq.elim
     | outgrown=>exact hq.elim
     | normal =>
       obtain⟨A31,A32,g,bA,bP,bF,bS,rfl,hp4,hb4⟩:=hq
       have HP4:=hide hp4
       have HQ4:Hid (EachBx w most w4):=by
        obtain⟨q1,q2,q3⟩:=HQ2.out
        exact⟨(hb4.block _ (aGe.1 q1).1).trans q1,(hb4.block _ (aGe.1 q2).1).trans q2,(hb4.block _ (aGe.1 q3).1).trans q3⟩
       have HF4:=hide ((hb4.block _ (aGe.1 HF2.out).1).trans HF2.out)
       have HW4:=hide (HW2.out.trans (hb4.mono HW2.out.size))
       have hfb4:fb<w4.heap.size:=(aGe.1 HF4.out).1
       have hww:w.heap.size≤w4.heap.size:=HW4.out.size
       clear hp4 hb4 HOf HPr HC2 HQ2 HF2 HW2 cT0 cT1 cT2 hnd hfs
       gi_wp2_with fail
       refine rangeS (α:=ByteArray×ByteArray) (w:=w4) rfl (by omega) (gf:=128) (lb:=#[.pointer (some ⟨bA,0,none⟩),.pointer (some ⟨bP,0,none⟩),.pointer (some ⟨bF,0,none⟩),.pointer (some ⟨bS,0,none⟩)]) rfl trivial (fun _ _=>by kernel_rfl) (encs:=encPair) (fun _=>rfl) (Fx:=fun _ _=>True) (Kp:=KpP) (Done:=fun xs=>xs=L) (fun pre z=>pre++[z] <+: L)
        (fun pre A=>EaI w fb pre A∧pre.length<K∧EachBx w most A) (fun c pre A=>c=.exit 0∧pre.length=K∧pre <+: L∧EaI w fb pre A∧EachBx w most A)
        (fun pre A A' h ht=>⟨h.1.turn hww ht,h.2.1,h.2.2.turn ht⟩) (fun c pre A A' h ht=>⟨h.1,h.2.1,h.2.2.1,h.2.2.2.1.turn hww ht,h.2.2.2.2.turn ht⟩) (fun _ _ _ _ _=>trivial) (fun A A2 A3 A4 h1 h2 h3=>KpP.turn A A2 A3 A4 h1 h2 h3)
        (fun l3 J3 X3 W3 hl3 hT3 hJ3 hX3 hY3 hJ30=>HP4.out 8 l3 J3 X3 W3 hl3 (KpP.of_turned hT3) hJ3 hX3 (fun m' pre x W1 h1 h2 h3=>any_round (hY3 pre x W1 h1 h2 h3)) hJ30)
        ⟨⟨HW4.out,_,HF4.out,World.ownsRow_nil _ _ _ _,fun g hg=>by simp[Value.ownBlock] at hg⟩,HK.out.2.1,HQ4.out⟩
        (fun z a' A=>∃B2:Nat,A.heap[B2]? = some (.cells #[.string z.1,.string z.2] 33 (0,0))∧a' = { tmps:=#[.pointer (some ⟨T,0,none⟩),.string s,.int .i64 most,undef,undef,.pointer (some ⟨w.heap.size,0,none⟩),.pointer (some ⟨w.heap.size+1,0,none⟩),.pointer (some ⟨w.heap.size+1+1,0,none⟩),.string f,.bool true,.pointer (some ⟨fb,0,none⟩),.pointer (some ⟨B2,0,none⟩),.int .i64 0,.tuple #[.string f,.bool true],.string s,.tuple #[.string f,.bool true],.string f,.bool true,.bool true,.bool false,.bool false,.int .i64 most,.bool false,.bool false,.pointer (some ⟨T,0,none⟩),.pointer (some ⟨T,0,none⟩),.pointer (some ⟨T,0,none⟩),.map (some M),.pointer (some ⟨T,0,none⟩),.pointer (some ⟨T,0,none⟩),.pointer (some ⟨T,1,none⟩),A31,A32,.string f,.slice (some ⟨g,0,none⟩) pl (2 * f.size),.func (.func 128) #[] #[.pointer (some ⟨bA,0,none⟩),.pointer (some ⟨bP,0,none⟩),.pointer (some ⟨bF,0,none⟩),.pointer (some ⟨bS,0,none⟩)],.agg #[.string z.1,.string z.2],.int .i64 0,undef,undef,undef,undef,undef,undef,undef,undef,undef,undef,undef,undef,undef],defers:=[] })
        ?assign (fun z a' A A' ⟨B2,k1,k2⟩ ht=>⟨B2,ht.same _ _ k1 (.inr rfl),k2⟩) ?body ?done ?stop
       case assign =>
        intro l4 pre z A Kc hi _ hKc
        simp only[encPair]
        gi_wp2
        exact hKc _ _ ⟨A.heap.size,heap_alloc_new A _,rfl⟩ ⟨hi.1.turn hww (Turned.of_below (below_alloc A _)),hi.2.1,hi.2.2.turn (B:=w4.heap.size) (Turned.of_below (below_alloc A _))⟩ trivial (pays_alloc _ A _) (Turned.of_below (below_alloc A _))
       case body =>
        rintro l4 pre z a' A ⟨B2,hb2,rfl⟩ ⟨i1,i2,i3⟩ _ hok _ _
        obtain⟨v,hbox,hrow,hst⟩:=i1.own
        obtain⟨t0,hti,hz0,hz1,hz2⟩:=info_parts infoPair
        obtain⟨g9,c9,w9,hr9,ho9,hg9,hs9⟩:=run_append_str (P:=Tryz.prog) (A.alloc (.cells #[.string z.1,.string z.2] 33)) (fb+1) 27 27 33 t0 _ 32 Tryz.underlying27 hti hz0 hz1 hz2 rfl v pre.length (pairCells pre) (hrow.alloc _) (hst.alloc _) (pairCells_str pre) ⟨A.heap.size,0,none⟩ 1 z.1 z.2 (World.news_of_block (heap_alloc_new A _)) (by have:=HK.out;unfold maxLen;omega) (by have:=HK.out;omega) (by have:=(aGe.1 hbox).1;simp;omega)
        have hfin:=ea_fin (x:=z) (B:=w4.heap.size) (by omega) hfb4 i1.bel hbox hrow hst ho9 hg9 hs9
        have HFin:=hide hfin
        have HBx9:Hid (EachBx w most (w9.setCell ⟨fb,0,none⟩ (.slice (some ⟨g9,0,none⟩) (pre.length+1) c9))):=⟨(hfin.1.2 _ _ i3.1 (by omega)).1,(hfin.1.2 _ _ i3.2.1 (by omega)).1,(hfin.1.2 _ _ i3.2.2 (by omega)).1⟩
        have HR9:=hide hr9
        have d0:A.cell? ⟨fb,0,none⟩=some v:=cell_of_row A _ 0 _ _ (0,0) hbox
        have d1:A.cell? ⟨B2,0,none⟩=some (.string z.1):=cell_of_row A _ 0 _ _ (0,0) hb2
        have d2:A.cell? ⟨B2,1,none⟩=some (.string z.2):=cell_of_row A _ 1 _ _ (0,0) hb2
        have d3:w9.cell? ⟨fb,0,none⟩=some v:=cell_of_row w9 _ 0 _ _ (0,0) hfin.1.1
        have d4:w9.frozen? ⟨fb,0,none⟩=false:=frozen_of_row w9 _ 0 _ _ hfin.1.1
        have d5:(w9.setCell ⟨fb,0,none⟩ (.slice (some ⟨g9,0,none⟩) (pre.length+1) c9)).cell? ⟨fb,0,none⟩=some (.slice (some ⟨g9,0,none⟩) (pre.length+1) c9):=cell_of_row _ _ 0 _ _ (0,0) (heap_setCell_same w9 fb 0 _ _ _ hfin.1.1)
        have d6:(w9.setCell ⟨fb,0,none⟩ (.slice (some ⟨g9,0,none⟩) (pre.length+1) c9)).cell? ⟨w.heap.size,0,none⟩=some (.int .i64 most):=cell_of_row _ _ 0 _ _ (0,0) HBx9.out.1
        have HOk:=hide hok
        have HI2:=hide i2
        have hk1:=HK.out.1
        clear i1 i3 hbox hrow hst ho9 hg9 hs9 hfin hr9 hb2 hok hti hz0 hz1 hz2
        by_cases hlast:pre.length+1=K
        ·have hq:((pre.length:Int)+1)=min most 100:=by omega
         have HL:=hide hlast
         clear hlast hk1 i2
         gi_wp2_with (gi_at_builtin;refine wpListIn_append_run rfl _ _ 27 rfl _ _ _ _ rfl rfl HR9.out ?_)
         obtain⟨_,f1,f2,f3⟩:=HFin.out
         exact⟨f1,f2,rfl,by rw[List.length_append];exact HL.out,HOk.out,f3,HBx9.out⟩
        ·have hq:¬((pre.length:Int)+1)=min most 100:=by omega
         have HL:=hide hlast
         clear hlast hk1 i2
         gi_wp2_with (gi_at_builtin;refine wpListIn_append_run rfl _ _ 27 rfl _ _ _ _ rfl rfl HR9.out ?_)
         obtain⟨_,f1,f2,f3⟩:=HFin.out
         exact⟨f1,f2,f3,by rw[List.length_append];have:=HL.out;have:=HI2.out;simp only[List.length_cons,List.length_nil];omega,HBx9.out⟩
       case done =>
        rintro D xs A hD rfl ⟨i1,i2,i3⟩ hKd
        obtain⟨v,hbox,hrow,_⟩:=i1.own
        obtain⟨vao,vcap,rfl⟩:=own_len hrow
        obtain⟨e1,e2,e3,e4,e5⟩:=each_fin i1.bel i3 hrow hfl (show fb<D by omega) hKd
        have HX:=hide (And.intro e1 (And.intro e2 (And.intro e3 (And.intro e4 e5))))
        have HI2:=hide i2
        have d0:A.cell? ⟨fb,0,none⟩=some (.slice vao _ vcap):=cell_of_row A _ 0 _ _ (0,0) hbox
        have d1:A.cell? ⟨w.heap.size+1,0,none⟩=some (.slice none 0 0):=cell_of_row A _ 0 _ _ (0,0) i3.2.1
        have d2:A.cell? ⟨w.heap.size+1+1,0,none⟩=some (.int .i64 0):=cell_of_row A _ 0 _ _ (0,0) i3.2.2
        have d3:A.frozen? ⟨w.heap.size+1,0,none⟩=false:=frozen_of_row A _ 0 _ _ i3.2.1
        have d4:A.frozen? ⟨w.heap.size+1+1,0,none⟩=false:=frozen_of_row A _ 0 _ _ i3.2.2
        clear e1 e2 e3 e4 e5 i1 i2 i3 hbox hrow hKd
        gi_wp2
        obtain⟨e1,e2,e3,e4,e5⟩:=HX.out
        refine⟨by simp,.inl ⟨_,_,rfl,run_takeDeferred e1,?_⟩⟩
        refine⟨_,each_results rfl rfl e2 e3,_,rfl,?_,e5⟩
        rw[HE.out,List.take_of_length_le (by have:=HI2.out;omega)]
        exact e4
       case stop =>
        rintro D c xs A hD ⟨rfl,i2,i4,i1,i3⟩ hKd
        obtain⟨v,hbox,hrow,_⟩:=i1.own
        obtain⟨vao,vcap,rfl⟩:=own_len hrow
        obtain⟨e1,e2,e3,e4,e5⟩:=each_fin i1.bel i3 hrow hfl (show fb<D by omega) hKd
        have HX:=hide (And.intro e1 (And.intro e2 (And.intro e3 (And.intro e4 e5))))
        have HI2:=hide (And.intro i2 i4)
        have d0:A.cell? ⟨fb,0,none⟩=some (.slice vao _ vcap):=cell_of_row A _ 0 _ _ (0,0) hbox
        have d1:A.cell? ⟨w.heap.size+1,0,none⟩=some (.slice none 0 0):=cell_of_row A _ 0 _ _ (0,0) i3.2.1
        have d2:A.cell? ⟨w.heap.size+1+1,0,none⟩=some (.int .i64 0):=cell_of_row A _ 0 _ _ (0,0) i3.2.2
        have d3:A.frozen? ⟨w.heap.size+1,0,none⟩=false:=frozen_of_row A _ 0 _ _ i3.2.1
        have d4:A.frozen? ⟨w.heap.size+1+1,0,none⟩=false:=frozen_of_row A _ 0 _ _ i3.2.2
        clear e1 e2 e3 e4 e5 i1 i2 i3 i4 hbox hrow hKd
        gi_wp2
        obtain⟨e1,e2,e3,e4,e5⟩:=HX.out
        refine⟨by simp,.inl ⟨_,_,rfl,run_takeDeferred e1,?_⟩⟩
        refine⟨_,each_results rfl rfl e2 e3,_,rfl,?_,e5⟩
        obtain⟨j1,r,rfl⟩:=HI2.out
        rw[HE.out,←j1,List.take_left]
        exact e4
end Go.Proofs.YthdjmldddjljfaaGreatDoor
