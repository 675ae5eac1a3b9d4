/-
  OUR OWN.
-/
import Derived.Test.YthdjmldddjljfaaGreatDoorG32
import Derived.Stop.RegionWithIn
set_option maxHeartbeats 8000000
set_option maxRecDepth 20000
namespace Go.Proofs.YthdjmldddjljfaaGreatDoor
open Go.RowKit Go.Shelf
attribute [local go_sem] Oper.semAt_some
theorem yieldBy.one {α:Type}{l:Nat}{Kp:World→World→Prop}{J X:List α→World→Prop}{pre:List α}{W:World}{e:Ending}{W' : World}(h:yieldBy l Kp J X pre W e W') :
  ∃tf:Bool,e=.returned (.bool tf)∧((tf=true∧J pre W')∨(tf=false∧X pre W'))∧Kp W W' ∧ Pays (l+1) W W' := by
 obtain⟨(⟨h1,h2⟩|⟨h1,h2⟩),h3,h4⟩:=h
 ·exact⟨true,h1,.inl ⟨rfl,h2⟩,h3,h4⟩
 ·exact⟨false,h1,.inr ⟨rfl,h2⟩,h3,h4⟩
set_option maxRecDepth 100000 in
theorem leafParts_tells (Hk:Nd→ByteArray→Prop)(ok:Nat→Prop)(bx b:Nat)(p:List Nat)(x:ByteArray)(W0:World)(hb:W0.heap[bx]? = some (.cells #[ptr b] 153 (0,0)))(hn:NdAt Hk ok W0 (.leaf p x) (.iface 153 (ptr b)))(hx:x.size≠0) :
  TellsParts Hk ok (.leaf p x) 212 #[.pointer (some ⟨bx,0,none⟩)] W0:=by
 intro m l J X W _ hk hJ _ hY hJ0
 have hmo:Tryz.prog.follows .mixedOrders=true:=by kernel_rfl
 obtain⟨b', ao,cap,e1,_,_,h2,h3,h4,h5⟩:=NdAt.keepP hk _ _ hn
 have hbb:b' = b:=by
  have e1:Value.iface 153 (ptr b)=.iface 153 (ptr b'):=e1
  unfold ptr at e1
  injection e1 with _ e1
  injection e1 with e1
  injection e1 with e1
  injection e1 with e1
  exact e1.symm
 subst hbb
 clear e1
 have hb' := hk.same _ _ _ _ hb (by decide) (by decide)
 have c0:W.cell? ⟨bx,0,none⟩=some (.pointer (some ⟨b', 0,none⟩)):=cell_of_row W _ 0 _ _ (0,0) hb'
 have c1:W.cell? ⟨b', 0,none⟩=some (.slice ao p.length cap):=cell_of_row W _ 0 _ _ (0,0) h2
 have c2:W.cell? ⟨b', 1,none⟩=some (.string x):=cell_of_row W _ 1 _ _ (0,0) h2
 obtain⟨fn,tmps,assign,body,hy,hR⟩:=hY (m - 1) [] (.val p x,⟨ao,p.length,cap,x,.nilIface,e0,.inl rfl⟩) W.drew (hJ (l+1) _ _ _ (by omega) hJ0 (Turned.of_below ((Below.refl _ _).drew))) ⟨⟨rfl,h3.keepP (KpP.of_below ((Below.refl _ _).drew)),h4,h5⟩,rfl,hx⟩ (List.prefix_refl _)
 dsimp only[encPart,Pt.enc] at hy
 have HR:=hide hR
 clear hR hY hk hn hb
 refine callsIn_of_wp Tryz.func212 rfl trivial ?_ rfl
 simp only[Tryz.ntmps212,List.size_toArray,List.length_cons,List.length_nil,Nat.reduceAdd,Nat.reduceSub,Array.replicate_succ,Array.replicate_zero,List.push_toArray,List.append_toArray,List.nil_append,List.cons_append]
 gi_wp2_with fail
 gi_region_with (refine⟨fun h=>absurd h (by decide),HR.out.mono ?_⟩;intro e W3 h;obtain⟨tf,rfl,hz,_,_⟩:=h.one;have HZ:=hide hz;clear hz h)
 all_goals
  gi_wp2
  go_end0
  refine⟨⟨_,rfl⟩,?_⟩
  rcases HZ.out with⟨_,h⟩|⟨_,h⟩
  ·exact .inl ⟨_,rfl,h⟩
  ·exact .inr ⟨_,h⟩
set_option maxRecDepth 100000 in
theorem extParts_tells (Hk:Nd→ByteArray→Prop)(ok:Nat→Prop)(bx b:Nat)(p:List Nat)(n:Nd)(W0:World)(hb:W0.heap[bx]? = some (.cells #[ptr b] 250 (0,0)))(hn:NdAt Hk ok W0 (.ext p n) (.iface 250 (ptr b)))(hx:n≠.nil) :
  TellsParts Hk ok (.ext p n) 234 #[.pointer (some ⟨bx,0,none⟩)] W0:=by
 intro m l J X W _ hk hJ _ hY hJ0
 have hmo:Tryz.prog.follows .mixedOrders=true:=by kernel_rfl
 obtain⟨b', ao,cap,u,g,e1,_,_,h2,h3,h4,h5,h6,_⟩:=NdAt.keepP hk _ _ hn
 have hbb:b' = b:=by
  have e1:Value.iface 250 (ptr b)=.iface 250 (ptr b'):=e1
  unfold ptr at e1
  injection e1 with _ e1
  injection e1 with e1
  injection e1 with e1
  injection e1 with e1
  exact e1.symm
 subst hbb
 clear e1
 have hb' := hk.same _ _ _ _ hb (by decide) (by decide)
 obtain⟨t,ub,rfl⟩:=h6.some hx
 have c0:W.cell? ⟨bx,0,none⟩=some (.pointer (some ⟨b', 0,none⟩)):=cell_of_row W _ 0 _ _ (0,0) hb'
 have c1:W.cell? ⟨b', 0,none⟩=some (.slice ao p.length cap):=cell_of_row W _ 0 _ _ (0,0) h2
 have c2:W.cell? ⟨b', 1,none⟩=some (.iface t (.pointer (some ⟨ub,0,none⟩))):=cell_of_row W _ 1 _ _ (0,0) h2
 have c3:W.cell? ⟨b', 2,none⟩=some (.string g):=cell_of_row W _ 2 _ _ (0,0) h2
 obtain⟨fn,tmps,assign,body,hy,hR⟩:=hY (m - 1) [] (.sub p n,⟨ao,p.length,cap,e0,.iface t (ptr ub),g,.inr ⟨t,ub,rfl⟩⟩) W.drew (hJ (l+1) _ _ _ (by omega) hJ0 (Turned.of_below ((Below.refl _ _).drew))) ⟨⟨rfl,h3.keepP (KpP.of_below ((Below.refl _ _).drew)),h4,h5⟩,rfl,hx,h6.keep ((Below.refl _ _).drew)⟩ (List.prefix_refl _)
 dsimp only[encPart,Pt.enc] at hy
 unfold ptr at hy
 have HR:=hide hR
 clear hR hY hk hn hb
 refine callsIn_of_wp Tryz.func234 rfl trivial ?_ rfl
 simp only[Tryz.ntmps234,List.size_toArray,List.length_cons,List.length_nil,Nat.reduceAdd,Nat.reduceSub,Array.replicate_succ,Array.replicate_zero,List.push_toArray,List.append_toArray,List.nil_append,List.cons_append]
 gi_wp2_with fail
 gi_region_with (refine⟨fun h=>absurd h (by decide),HR.out.mono ?_⟩;intro e W3 h;obtain⟨tf,rfl,hz,_,_⟩:=h.one;have HZ:=hide hz;clear hz h)
 all_goals
  gi_wp2
  go_end0
  refine⟨⟨_,rfl⟩,?_⟩
  rcases HZ.out with⟨_,h⟩|⟨_,h⟩
  ·exact .inl ⟨_,rfl,h⟩
  ·exact .inr ⟨_,h⟩
def brTo (c:Nat→Nd)(x:ByteArray)(i:Nat):List PS:=(if x.size=0 then [] else [.val [] x])++((List.range i).filter (fun i=>!(c i).isNil)).map fun i=>.sub [i] (c i)
theorem brTo_skip {c:Nat→Nd}{x:ByteArray}{i:Nat}(h:c i=.nil):brTo c x (i+1)=brTo c x i:=by
 unfold brTo
 rw[List.range_succ,List.filter_append]
 simp[h,Nd.isNil]
theorem brTo_take {c:Nat→Nd}{x:ByteArray}{i:Nat}(h:c i≠.nil):brTo c x (i+1)=brTo c x i++[.sub [i] (c i)]:=by
 unfold brTo
 rw[List.range_succ,List.filter_append]
 simp[(notNil_iff _).2 h]
theorem brTo_pre (c:Nat→Nd)(x:ByteArray):∀(k i:Nat),i+k=16→brTo c x i <+: (Nd.br c x).partsL
 | 0,i,h=>by
   obtain rfl:i=16:=by omega
   exact List.prefix_refl _
 | k+1,i,h=>by
   refine List.IsPrefix.trans ?_ (brTo_pre c x k (i+1) (by omega))
   by_cases hc:c i=.nil
   ·rw[brTo_skip hc];exact List.prefix_refl _
   ·rw[brTo_take hc];exact List.prefix_append _ _
def BrI (c:Nat→Nd)(x:ByteArray)(J:List (PS×Pt)→World→Prop)(W:World)(iv:Value)(wr:World):Prop :=
 ∃(i:Nat) (xs:List (PS×Pt)),i≤16∧iv=.int .i64 (i:Int)∧xs.map Prod.fst=brTo c x i∧J xs wr∧KpP W wr
set_option maxRecDepth 100000 in
theorem brParts_tells (Hk:Nd→ByteArray→Prop)(ok:Nat→Prop)(bx b:Nat)(c:Nat→Nd)(x:ByteArray)(W0:World)(hb:W0.heap[bx]? = some (.cells #[ptr b] 252 (0,0)))(hn:NdAt Hk ok W0 (.br c x) (.iface 252 (ptr b))) :
  TellsParts Hk ok (.br c x) 188 #[.pointer (some ⟨bx,0,none⟩)] W0:=by
 intro m l J X W hl hk hJ _ hY hJ0
 obtain⟨b', us,hs,e1,_,h2,h3⟩:=NdAt.keepP hk _ _ hn
 have hbb:b' = b:=by
  have e1:Value.iface 252 (ptr b)=.iface 252 (ptr b'):=e1
  unfold ptr at e1
  injection e1 with _ e1
  injection e1 with e1
  injection e1 with e1
  injection e1 with e1
  exact e1.symm
 subst hbb
 clear e1
 have hb' := hk.same _ _ _ _ hb (by decide) (by decide)
 have hus:∀i,i<16→(c i=.nil∧us i=.nilIface∧hs i=e0)∨(c i≠.nil∧∃t ub,us i=.iface t (ptr ub)):=fun i hi=>by
  obtain⟨k1,k2⟩:=h3 i hi
  by_cases hc:c i=.nil
  ·rw[hc] at k1
   refine .inl ⟨hc,k1,?_⟩
   rcases k2 with k2|⟨k2,_⟩
   ·exact k2
   ·exact absurd hc k2
  ·exact .inr ⟨hc,k1.some hc⟩
 have HN:=hide (fun i hi=>(h3 i hi).1)
 have HY:=hide hY
 have HJ:Hid (∀pre A A', J pre A→Below A.heap.size A A' → J pre A'):=fun pre A A' h hb=>hJ (l+1) _ _ _ (by omega) h (Turned.of_below hb)
 clear hY hJ h3 hk hb hn
 have c0:W.cell? ⟨bx,0,none⟩=some (.pointer (some ⟨b', 0,none⟩)):=cell_of_row W _ 0 _ _ (0,0) hb'
 have c1:W.cell? ⟨b', 32,none⟩=some (.string x):=br_val h2
 have hsz:=sizeRefs us hs
 have hidx:=fun w i hi=>run_refs w us hs i hi
 have hrg0:∀w:World,w.heap[b']? = some (.cells (brCells us hs x) 285 (0,0))→w.rangeAt b' 0 (brRefs us hs):=fun w h=>brRefs_at h
 generalize brRefs us hs=R at *
 have HRound:Hid (∀(xs:List (PS×Pt)) (i:Nat) (wr:World) (t:TypeId) (ub:Nat),i<16→xs.map Prod.fst=brTo c x i→J xs wr→KpP W wr→c i≠.nil→us i=.iface t (ptr ub) →
   YieldAt Fence.wide (m - 1) Tryz.prog l #[.agg #[.slice (some ⟨wr.heap.size+1,0,none⟩) 1 1,.string e0,.iface t (ptr ub),.string (hs i)]] ((wr.alloc (.cells #[.iface t (ptr ub),.string (hs i)] 65)).alloc (.cells #[.int .i64 (i:Int)] 3)) fun e W' =>
    ∃tf,e=.returned (.bool tf)∧((tf=true∧BrI c x J W (.int .i64 ((i+1:Nat):Int)) W')∨(tf=false∧∃xs,X xs W'))):=fun xs i wr t ub hi hxs hJx hkw hc hu=>by
  have bel:Below wr.heap.size wr ((wr.alloc (.cells #[.iface t (ptr ub),.string (hs i)] 65)).alloc (.cells #[.int .i64 (i:Int)] 3)):=below_alloc2 _ _ _
  have hnw:((wr.alloc (.cells #[.iface t (ptr ub),.string (hs i)] 65)).alloc (.cells #[.int .i64 (i:Int)] 3)).heap[wr.heap.size+1]? = some (.cells #[.int .i64 (i:Int)] 3 (0,0)):=by
   have h:=heap_alloc_new (wr.alloc (.cells #[.iface t (ptr ub),.string (hs i)] 65)) (.cells #[.int .i64 (i:Int)] 3)
   rwa [World.size_alloc] at h
  have hci:=cell_of_row _ _ 0 _ _ (0,0) hnw
  have hY:=HY.out (m - 1) xs (.sub [i] (c i),⟨some ⟨wr.heap.size+1,0,none⟩,1,1,e0,.iface t (ptr ub),hs i,.inr ⟨t,ub,rfl⟩⟩) _ (HJ.out _ _ _ hJx bel)
   ⟨⟨rfl,⟨fun a e=>by injection e with e;rw[←e],fun k hk=>⟨_,0,rfl,by
    obtain rfl:k=0:=by simpa[PS.path] using hk
    exact hci⟩⟩,(fun e=>by cases e),Nat.le_refl _⟩,rfl,hc,by
     have h:=HN.out i hi
     rw[hu] at h
     exact (NdAt.keepP hkw _ _ h).keep bel⟩ (by
    show List.map Prod.fst (xs++[_]) <+: _
    rw[List.map_append,hxs]
    show brTo c x i++[PS.sub [i] (c i)] <+: _
    rw[←brTo_take hc]
    exact brTo_pre c x (16 - (i+1)) (i+1) (by omega))
  obtain⟨fn,tmps,assign,body,hy,hR⟩:=hY
  refine⟨fn,tmps,assign,body,hy,hR.mono ?_⟩
  intro e W' h
  obtain⟨tf,he,hz,hk1,_⟩:=h.one
  refine⟨tf,he,hz.imp (fun h=>⟨h.1,i+1,_,by omega,rfl,?_,h.2,(hkw.trans (KpP.of_below bel)).trans hk1⟩) (fun h=>⟨h.1,_,h.2⟩)⟩
  rw[List.map_append,hxs,brTo_take hc]
  rfl
 have HV:Hid (x.size≠0→YieldAt Fence.wide (m - 1) Tryz.prog l #[.agg #[.slice none 0 0,.string x,.nilIface,.string ⟨#[]⟩]] W fun e W' =>
   ∃tf,e=.returned (.bool tf)∧((tf=true∧BrI c x J W (.int .i64 0) W')∨(tf=false∧∃xs,X xs W'))):=fun hx=>by
  have hp:brTo c x 0=[.val [] x]:=by simp[brTo,hx]
  obtain⟨fn,tmps,assign,body,hy,hR⟩:=HY.out (m - 1) [] (.val [] x,⟨none,0,0,x,.nilIface,e0,.inl rfl⟩) W hJ0 ⟨⟨rfl,Nums.nil (fun a e=>by cases e),fun _=>rfl,Nat.le_refl _⟩,rfl,hx⟩ (by
   show [PS.val [] x] <+: _
   rw[←hp]
   exact brTo_pre c x 16 0 (by omega))
  refine⟨fn,tmps,assign,body,hy,hR.mono ?_⟩
  intro e W' h
  obtain⟨tf,he,hz,hk1,_⟩:=h.one
  refine⟨tf,he,hz.imp (fun h=>⟨h.1,0,_,by omega,rfl,?_,h.2,hk1⟩) (fun h=>⟨h.1,_,h.2⟩)⟩
  exact hp.symm
 have HSkip:Hid (∀(xs:List (PS×Pt)) (i:Nat) (wr:World) (o:Obj),i<16→xs.map Prod.fst=brTo c x i→J xs wr→KpP W wr→c i=.nil→BrI c x J W (.int .i64 ((i+1:Nat):Int)) (wr.alloc o)):=fun xs i wr o hi hxs hJx hkw hc =>
  ⟨i+1,xs,by omega,rfl,by rw[hxs,brTo_skip hc],HJ.out _ _ _ hJx (below_alloc wr _),hkw.trans (KpP.of_below (below_alloc wr _))⟩
 have HStart:Hid (x.size=0→BrI c x J W (.int .i64 0) W):=fun hx=>⟨0,[],by omega,rfl,by simp[brTo,hx],hJ0,KpP.refl _⟩
 by_cases hx0:x.size=0
 ·obtain rfl:x=e0:=e0_of hx0
  refine callsIn_of_wp Tryz.func188 rfl trivial ?_ rfl
  simp only[Tryz.ntmps188,List.size_toArray,List.length_cons,List.length_nil,Nat.reduceAdd,Nat.reduceSub,Array.replicate_succ,Array.replicate_zero,List.push_toArray,List.append_toArray,List.nil_append,List.cons_append]
  gi_wp2_with (first
   | (refine wpListIn_load_mid rfl 283 (.tmp 22) rfl b' 0 rfl R _ (hrg0 W h2) Tryz.underlying283 rfl hsz ?_)
   | (refine wpListIn_skip rfl rfl ?_))
  gi_loopw [24] (BrI c e0 J W) (fun iv _=>16 - (intOf iv).toNat)
  case atStart=>exact HStart.out rfl
  case round =>
   obtain⟨i,xs,hi,rfl,hxs,hJx,hkw⟩:=hrel
   by_cases hlt:i<16
   ·have hix:=hidx wr i hlt
    rcases hus i hlt with⟨hc,e1,e2⟩|⟨hc,t,ub,e1⟩
    ·rw[e1,e2] at hix
     gi_wp2_with fail
     refine⟨trivial,fun h=>absurd h (by decide),CallsIn.mono (isEmpty_in_yes Fence.wide _ trivial rfl _ 0 _ (cell_alloc_new wr #[.nilIface,.string e0] 65 0 .nilIface rfl) (cell_alloc_new wr #[.nilIface,.string e0] 65 1 (.string e0) rfl)) ?_⟩
     rintro e w2 ⟨rfl,rfl⟩
     gi_wp2_with (refine wpListIn_skip rfl rfl ?_)
     exact⟨HSkip.out xs i wr _ hlt hxs hJx hkw hc,by simp[intOf];omega⟩
    ·rw[e1] at hix
     obtain⟨fn,tmps,assign,body,hy,hR⟩:=HRound.out xs i wr t ub hlt hxs hJx hkw hc e1
     gi_wp2_with fail
     refine⟨trivial,fun h=>absurd h (by decide),CallsIn.mono (isEmpty_in_no Fence.wide _ trivial rfl _ 0 t ub _ (cell_alloc_new wr #[.iface t (ptr ub),.string (hs i)] 65 0 (.iface t (ptr ub)) rfl)) ?_⟩
     rintro e w2 ⟨rfl,rfl⟩
     gi_wp2_with fail
     first|refine⟨fun h=>absurd h (by decide),hR.mono ?_⟩|refine hR.mono ?_
     rintro e W3 ⟨tf,rfl,(⟨rfl,hb3⟩|⟨rfl,hx3⟩)⟩
     ·gi_wp2_with fail
      exact⟨hb3,by simp[intOf];omega⟩
     ·gi_wp2
      first|go_end0|refine bodyPost_ret (results_none rfl _ _ _) rfl ?_
      exact⟨⟨_,rfl⟩,.inr hx3⟩
   ·obtain rfl:i=16:=by omega
    gi_wp2
    first|go_end0|refine bodyPost_ret (results_none rfl _ _ _) rfl ?_
    exact⟨⟨_,rfl⟩,.inl ⟨xs,hxs,hJx⟩⟩
 ·have hne:x≠e0:=fun e=>hx0 (by rw[e];rfl)
  have hne2:¬x.toList=[]:=fun e=>hne (e0_of_toList e)
  have hne3:x.toList.isEmpty=false:=empty_of_ne hne
  obtain⟨fn,tmps,assign,body,hy,hR⟩:=HV.out hx0
  refine callsIn_of_wp Tryz.func188 rfl trivial ?_ rfl
  simp only[Tryz.ntmps188,List.size_toArray,List.length_cons,List.length_nil,Nat.reduceAdd,Nat.reduceSub,Array.replicate_succ,Array.replicate_zero,List.push_toArray,List.append_toArray,List.nil_append,List.cons_append]
  gi_wp2_with fail
  first|refine⟨fun h=>absurd h (by decide),hR.mono ?_⟩|refine hR.mono ?_
  rintro e W3 ⟨tf,rfl,(⟨rfl,hb3⟩|⟨rfl,hx3⟩)⟩
  ·obtain⟨_,_,_,_,_,_,hk3⟩:=id hb3
   have hbx:=hk3.same _ _ _ _ hb' (by decide) (by decide)
   have hbb:=hk3.same _ _ _ _ h2 (by decide) (by decide)
   have c3:W3.cell? ⟨bx,0,none⟩=some (.pointer (some ⟨b', 0,none⟩)):=cell_of_row W3 _ 0 _ _ (0,0) hbx
   clear hk3
   gi_wp2_with (first
    | (refine wpListIn_load_mid rfl 283 (.tmp 22) rfl b' 0 rfl R _ (hrg0 W3 hbb) Tryz.underlying283 rfl hsz ?_)
    | (refine wpListIn_skip rfl rfl ?_))
   gi_loopw [24] (BrI c x J W) (fun iv _=>16 - (intOf iv).toNat)
   case atStart=>exact hb3
   case round =>
    obtain⟨i,xs,hi,rfl,hxs,hJx,hkw⟩:=hrel
    by_cases hlt:i<16
    ·have hix:=hidx wr i hlt
     rcases hus i hlt with⟨hc,e1,e2⟩|⟨hc,t,ub,e1⟩
     ·rw[e1,e2] at hix
      gi_wp2_with fail
      refine⟨trivial,fun h=>absurd h (by decide),CallsIn.mono (isEmpty_in_yes Fence.wide _ trivial rfl _ 0 _ (cell_alloc_new wr #[.nilIface,.string e0] 65 0 .nilIface rfl) (cell_alloc_new wr #[.nilIface,.string e0] 65 1 (.string e0) rfl)) ?_⟩
      rintro e w2 ⟨rfl,rfl⟩
      gi_wp2_with (refine wpListIn_skip rfl rfl ?_)
      exact⟨HSkip.out xs i wr _ hlt hxs hJx hkw hc,by simp[intOf];omega⟩
     ·rw[e1] at hix
      obtain⟨fn,tmps,assign,body,hy,hR⟩:=HRound.out xs i wr t ub hlt hxs hJx hkw hc e1
      gi_wp2_with fail
      refine⟨trivial,fun h=>absurd h (by decide),CallsIn.mono (isEmpty_in_no Fence.wide _ trivial rfl _ 0 t ub _ (cell_alloc_new wr #[.iface t (ptr ub),.string (hs i)] 65 0 (.iface t (ptr ub)) rfl)) ?_⟩
      rintro e w2 ⟨rfl,rfl⟩
      gi_wp2_with fail
      first|refine⟨fun h=>absurd h (by decide),hR.mono ?_⟩|refine hR.mono ?_
      rintro e W3 ⟨tf,rfl,(⟨rfl,hb3⟩|⟨rfl,hx3⟩)⟩
      ·gi_wp2_with fail
       exact⟨hb3,by simp[intOf];omega⟩
      ·gi_wp2
       first|go_end0|refine bodyPost_ret (results_none rfl _ _ _) rfl ?_
       exact⟨⟨_,rfl⟩,.inr hx3⟩
    ·obtain rfl:i=16:=by omega
     gi_wp2
     first|go_end0|refine bodyPost_ret (results_none rfl _ _ _) rfl ?_
     exact⟨⟨_,rfl⟩,.inl ⟨xs,hxs,hJx⟩⟩
  ·gi_wp2
   first|go_end0|refine bodyPost_ret (results_none rfl _ _ _) rfl ?_
   exact⟨⟨_,rfl⟩,.inr hx3⟩
end Go.Proofs.YthdjmldddjljfaaGreatDoor
