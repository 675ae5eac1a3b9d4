/-
  OUR OWN.
-/
import Derived.Test.YthdjmldddjljfaaGreatDoorG50
import Derived.Test.YthdjmldddjljfaaGreatDoorG49
set_option maxHeartbeats 8000000
set_option maxRecDepth 20000
namespace Go.Proofs.YthdjmldddjljfaaGreatDoor
open Go.ChangeShapes Go.WideShapes Go.ChangeAt Go.RowKit
theorem cellsE:Tryz.prog.cellsOf 125=2:=by kernel_rfl
theorem cellsO:Tryz.prog.cellsOf 40=6:=by kernel_rfl
theorem cellsLP:Tryz.prog.cellsOf 27=1:=by kernel_rfl
theorem cellsLS:Tryz.prog.cellsOf 38=1:=by kernel_rfl
set_option maxRecDepth 100000 in
theorem open_entries {H:Type}{enc:TypeId×Value→H}{W:World}{base:Nat}{spare:Nat→Bool}{held:Bool}{fuel:Nat}{cs:List Value}{x:DataW H×List MemPlace}(h:DataW.trod enc Tryz.prog W base spare held fuel 22 cs=some x) :
  (cs=[.slice none 0 0]∧x.1=.nil)∨∃(a:Addr) (len cap:Nat) (ps:List Pr) (sp:List (DataW H)),cs=[.slice (some a) len cap]∧len=ps.length∧x.1=.slice (ps.map pOf) sp ∧
    ∀i,i<ps.length→W.cell? (a.add (i*2))=some (.string (ps.getD i pr0).1)∧W.cell? (a.add (i*2+1))=some (.string (ps.getD i pr0).2):=by
 rcases Go.Deep.open_slice Tryz.underlying22 h with⟨h0,hx⟩|⟨a,len,cap,m,n,D,Pl,rfl,hb,hl,hm,hmm,rfl,hx⟩
 ·exact .inl ⟨h0,by rw[hx]⟩
 right
 have hlm:len≤m:=by rw[hmm];split<;>omega
 have each:∀i,i<len→∃p:Pr,W.cell? (a.add (i*2))=some (.string p.1)∧W.cell? (a.add (i*2+1))=some (.string p.2)∧D i=pOf p:=by
  intro i hi
  obtain⟨cs', h1,h2⟩:=hx i (by omega)
  rw[cellsE] at h1
  obtain⟨_,hlen,hcell⟩:=World.cells?_some h1
  obtain⟨xs,k,hk,hxy,_,hxl,hf⟩:=DataW.trod_struct Tryz.underlying125 h2
  match xs,hxl,cs', hlen with
  | [y0,y1],_,[v0,v1],_ =>
    have g0:=hf 0 _ rfl
    have g1:=hf 1 _ rfl
    simp[cellsS] at g0 g1
    obtain⟨s,hs0,hs1,_⟩:=DataW.trod_string Tryz.underlying9 g0
    obtain⟨s', hs0', hs1', _⟩:=DataW.trod_string Tryz.underlying9 g1
    have e0:=hcell 0 (by omega)
    have e1:=hcell 1 (by omega)
    rw[Go.Deep.add_add] at e0 e1
    simp only[List.cons.injEq,and_true] at hs0 hs0'
    subst hs0;subst hs0'
    simp only[Prod.mk.injEq] at hxy
    refine⟨(s,s'),by simpa using e0,by simpa using e1,?_⟩
    rw[hxy.1]
    simp[pOf,hs1,hs1']
 obtain⟨q,hq⟩:=Go.Deep.choose_lt each
 refine⟨a,len,cap,(List.range len).map q,(List.range (m - len)).map (fun j=>D (len+j)),rfl,by rw[List.length_map,List.length_range],?_,fun i hi=>?_⟩
 ·show DataW.slice _ _=DataW.slice _ _
  rw[List.map_map]
  congr 1
  exact List.map_congr_left (fun i hi=>(hq i (List.mem_range.1 hi)).2.2)
 ·have hi2:i<len:=by simpa using hi
  have e:((List.range len).map q).getD i pr0=q i:=by simp[List.getD_eq_getElem?_getD,hi2]
  rw[e]
  obtain⟨h1,h2,_⟩:=hq i hi2
  exact⟨h1,h2⟩
theorem pOf_bulk {H:Type}(p:Pr):p.1.size+p.2.size+1≤Rows.uptoBulk (pOf (H:=H) p):=by
 have e1:p.1.data.toList.length=p.1.size:=by rw[Array.length_toList];rfl
 have e2:p.2.data.toList.length=p.2.size:=by rw[Array.length_toList];rfl
 simp only[pOf,Rows.uptoBulk,Rows.uptoBulkAll]
 omega
theorem bulk_prs {H:Type}(ps:List Pr):ps.length≤Rows.uptoBulkAll (ps.map (pOf (H:=H)))∧∀p∈ps,p.1.size≤Rows.uptoBulkAll (ps.map (pOf (H:=H)))∧p.2.size≤Rows.uptoBulkAll (ps.map (pOf (H:=H))):=by
 induction ps with
 | nil=>exact⟨by simp,fun p hp=>by cases hp⟩
 | cons p r ih =>
   have h:=pOf_bulk (H:=H) p
   simp only[List.map_cons,Rows.uptoBulkAll,List.length_cons]
   refine⟨by have:=ih.1;omega,fun q hq=>?_⟩
   rcases List.mem_cons.1 hq with rfl|hq
   ·omega
   ·have:=ih.2 q hq;omega
theorem bulk_txs {H:Type}(ks:List ByteArray):ks.length≤Rows.uptoBulkAll (ks.map (sOf (H:=H))):=by
 induction ks with
 | nil=>simp
 | cons k r ih =>
   have h:1≤Rows.uptoBulk (sOf (H:=H) k):=by simp only[sOf,Rows.uptoBulk];omega
   simp only[List.map_cons,Rows.uptoBulkAll,List.length_cons]
   omega
theorem entries_of {H:Type}{enc:TypeId×Value→H}{W:World}{base:Nat}{spare:Nat→Bool}{held:Bool}{fuel:Nat}{v:Value}{x:DataW H×List MemPlace}(h:DataW.trod enc Tryz.prog W base spare held fuel 22 [v]=some x):∃ao cap ps,v=.slice ao (List.length ps) cap∧Prs W ao ps∧ps.length≤Rows.uptoBulk x.1∧∀p∈ps,p.1.size≤Rows.uptoBulk x.1∧p.2.size≤Rows.uptoBulk x.1:=by
 rcases open_entries h with⟨hcs,_⟩|⟨a,l,c,ps,sp,hcs,hl,hx,hcell⟩
 ·exact⟨none,0,[],by simpa using hcs,fun i hi=>by simp at hi,by simp,fun p hp=>by cases hp⟩
 ·obtain⟨b1,b2⟩:=bulk_prs (H:=H) ps
  subst hl
  rw[hx]
  simp only[Rows.uptoBulk]
  exact⟨some a,c,ps,by simpa using hcs,prs_of hcell,by omega,fun p hp=>by have:=b2 p hp;omega⟩
theorem pairs_of {H:Type}{enc:TypeId×Value→H}{W:World}{base:Nat}{spare:Nat→Bool}{held:Bool}{fuel:Nat}{v:Value}{x:DataW H×List MemPlace}(h:DataW.trod enc Tryz.prog W base spare held fuel 27 [v]=some x):∃ao cap ps,v=.slice ao (List.length ps) cap∧Prs W ao ps∧ps.length+1≤Rows.uptoBulk x.1:=by
 rcases open_pairs h with⟨hcs,hx⟩|⟨a,l,c,ps,sp,hcs,hl,hx,hcell⟩
 ·refine⟨none,0,[],by simpa using hcs,fun i hi=>by simp at hi,?_⟩
  rw[hx]
  simp[Rows.uptoBulk]
 ·obtain⟨b1,b2⟩:=bulk_prs (H:=H) ps
  subst hl
  rw[hx]
  simp only[Rows.uptoBulk]
  exact⟨some a,c,ps,by simpa using hcs,prs_of hcell,by omega⟩
theorem texts_of {H:Type}{enc:TypeId×Value→H}{W:World}{base:Nat}{spare:Nat→Bool}{held:Bool}{fuel:Nat}{v:Value}{x:DataW H×List MemPlace}(h:DataW.trod enc Tryz.prog W base spare held fuel 38 [v]=some x):∃ao cap ks,v=.slice ao (List.length ks) cap∧Kys W ao ks∧ks.length+1≤Rows.uptoBulk x.1:=by
 rcases open_texts h with⟨hcs,hx⟩|⟨a,l,c,ks,sp,hcs,hl,hx,hcell⟩
 ·refine⟨none,0,[],by simpa using hcs,fun i hi=>by simp at hi,?_⟩
  rw[hx]
  simp[Rows.uptoBulk]
 ·have b1:=bulk_txs (H:=H) ks
  subst hl
  rw[hx]
  simp only[Rows.uptoBulk]
  exact⟨some a,c,ks,by simpa using hcs,kys_of hcell,by omega⟩
set_option maxRecDepth 100000 in
theorem op_of {H:Type}{enc:TypeId×Value→H}{W:World}{base:Nat}{spare:Nat→Bool}{held:Bool}{fuel:Nat}{cs:List Value}{x:DataW H×List MemPlace}(h:DataW.trod enc Tryz.prog W base spare held fuel 40 cs=some x)(hl:cs.length=6):∃o:OpD,cs=[.int .i64 o.kind,.int .i64 o.on,.string o.s,.int .i64 o.z,o.pv,o.kv]∧Prs W o.pa o.ps∧Kys W o.ka o.ks∧-9223372036854775808≤o.z∧o.z≤9223372036854775807∧o.s.size+(o.ps.length+o.ks.length)+1≤Rows.uptoBulk x.1:=by
 obtain⟨xs,k,hk,hxy,_,hxl,hf⟩:=DataW.trod_struct Tryz.underlying40 h
 match xs,hxl,cs,hl with
 | [y0,y1,y2,y3,y4,y5],_,[v0,v1,v2,v3,v4,v5],_ =>
   have g0:=hf 0 _ rfl
   have g1:=hf 1 _ rfl
   have g2:=hf 2 _ rfl
   have g3:=hf 3 _ rfl
   have g4:=hf 4 _ rfl
   have g5:=hf 5 _ rfl
   simp[cellsS,cellsI,cellsLP,cellsLS] at g0 g1 g2 g3 g4 g5
   obtain⟨kind,e0,f0,_⟩:=DataW.trod_int Tryz.underlying3 g0
   obtain⟨on,e1,f1,_⟩:=DataW.trod_int Tryz.underlying3 g1
   obtain⟨s,e2,f2,_⟩:=DataW.trod_string Tryz.underlying9 g2
   obtain⟨z,e3,f3,hz⟩:=DataW.trod_int Tryz.underlying3 g3
   obtain⟨pa,pc,ps,e4,hp,b4⟩:=pairs_of g4
   obtain⟨ka,kc,ks,e5,hks,b5⟩:=texts_of g5
   have hz' : -9223372036854775808≤z∧z≤9223372036854775807:=by simpa[Lit.wf,IntKind.min,IntKind.max,IntKind.bits,IntKind.signed] using hz
   have es:s.data.toList.length=s.size:=by rw[Array.length_toList];rfl
   refine⟨⟨kind,on,s,z,pa,pc,ps,ka,kc,ks⟩,?_,hp,hks,hz'.1,hz'.2,?_⟩
   ·simp only[List.cons.injEq,and_true] at e0 e1 e2 e3
    rw[e0,e1,e2,e3,e4,e5]
    rfl
   ·rw[hxy]
    simp only[List.map_cons,List.map_nil,Rows.uptoBulk,Rows.uptoBulkAll,f2]
    omega
theorem bulk_sum {H:Type}(f:Nat→Nat)(D:Nat→DataW H):∀(l:List Nat),(∀i∈l,f i+1≤Rows.uptoBulk (D i))→(l.map f).sum+l.length≤Rows.uptoBulkAll (l.map D)
 | [],_=>by simp[Rows.uptoBulkAll]
 | i :: l,h=>by
   have h1:=bulk_sum f D l (fun j hj=>h j (List.mem_cons_of_mem _ hj))
   have h2:=h i List.mem_cons_self
   simp only[List.map_cons,List.sum_cons,List.length_cons,Rows.uptoBulkAll]
   omega
theorem bulk_mem {H:Type}(D:Nat→DataW H):∀(l:List Nat) (i:Nat),i∈l→Rows.uptoBulk (D i)≤Rows.uptoBulkAll (l.map D)
 | j :: l,i,h=>by
   simp only[List.map_cons,Rows.uptoBulkAll]
   rcases List.mem_cons.1 h with rfl|h
   ·omega
   ·have:=bulk_mem D l i h;omega
instance:Inhabited OpD:=⟨⟨0,0,⟨#[]⟩,0,none,0,[],none,0,[]⟩⟩
set_option maxRecDepth 100000 in
theorem ops_of {H:Type}{enc:TypeId×Value→H}{W:World}{base:Nat}{spare:Nat→Bool}{held:Bool}{fuel:Nat}{v:Value}{x:DataW H×List MemPlace}(h:DataW.trod enc Tryz.prog W base spare held fuel 23 [v]=some x)(hb:Rows.uptoBulk x.1≤1048576):∃sa sc ops,v=.slice sa (List.length ops) sc∧Ops W sa ops∧(∀i (hi:i<ops.length),(ops[i]).Ok W)∧ops.length≤1048576∧opsW ops≤1048576:=by
 rcases Go.Deep.open_slice Tryz.underlying23 h with⟨h0,hx⟩|⟨a,len,cap,m,n,D,Pl,hv,_,hl,hm,hmm,rfl,hx⟩
 ·exact⟨none,0,[],by simpa using h0,fun i hi=>by simp at hi,fun i hi=>by simp at hi,by simp,by simp[opsW]⟩
 have hlm:len≤m:=by rw[hmm];split<;>omega
 simp only[Rows.uptoBulk] at hb
 have each:∀i,i<len→∃o:OpD,W.cell? (a.add (i*6))=some (.int .i64 o.kind)∧W.cell? (a.add (i*6+1))=some (.int .i64 o.on)∧W.cell? (a.add (i*6+2))=some (.string o.s)∧W.cell? (a.add (i*6+3))=some (.int .i64 o.z)∧W.cell? (a.add (i*6+4))=some o.pv∧W.cell? (a.add (i*6+5))=some o.kv∧Prs W o.pa o.ps∧Kys W o.ka o.ks∧-9223372036854775808≤o.z∧o.z≤9223372036854775807∧o.s.size+(o.ps.length+o.ks.length)+1≤Rows.uptoBulk (D i):=by
  intro i hi
  obtain⟨cs', h1,h2⟩:=hx i (by omega)
  rw[cellsO] at h1
  obtain⟨_,hlen,hcell⟩:=World.cells?_some h1
  obtain⟨o,hcs,k1,k2,k3,k4,k5⟩:=op_of h2 hlen
  subst hcs
  have c0:=hcell 0 (by omega)
  have c1:=hcell 1 (by omega)
  have c2:=hcell 2 (by omega)
  have c3:=hcell 3 (by omega)
  have c4:=hcell 4 (by omega)
  have c5:=hcell 5 (by omega)
  rw[Go.Deep.add_add] at c0 c1 c2 c3 c4 c5
  exact⟨o,by simpa using c0,by simpa using c1,by simpa using c2,by simpa using c3,by simpa using c4,by simpa using c5,k1,k2,k3,k4,k5⟩
 obtain⟨q,hq⟩:=Go.Deep.choose_lt each
 have hsum:=bulk_sum (fun i=>(q i).ps.length+(q i).ks.length) D (List.range len) (fun i hi=>by have:=(hq i (List.mem_range.1 hi)).2.2.2.2.2.2.2.2.2.2;omega)
 rw[List.length_range] at hsum
 have el:((List.range len).map q).length=len:=by rw[List.length_map,List.length_range]
 refine⟨some a,cap,(List.range len).map q,by rw[el];simpa using hv,fun i hi=>?_,fun i hi=>?_,by omega,?_⟩
 ·have hi' : i<len:=by omega
  have e:((List.range len).map q)[i]=q i:=by simp
  rw[e]
  obtain⟨h1,h2,h3,h4,h5,h6,_⟩:=hq i hi'
  have h0:=(hq 0 (by omega)).1
  obtain⟨b,off,spot⟩:=a
  have hspot:spot=none:=by simpa[Addr.add] using World.cell?_spot h0
  subst hspot
  rw[addr_add] at h1 h2 h3 h4 h5 h6
  exact⟨b,off,rfl,h1,h2,h3,h4,h5,h6⟩
 ·have hi' : i<len:=by omega
  have e:((List.range len).map q)[i]=q i:=by simp
  rw[e]
  obtain⟨_,_,_,_,_,_,k1,k2,k3,k4,k5⟩:=hq i hi'
  have:=bulk_mem D (List.range len) i (List.mem_range.2 hi')
  exact⟨k1,k2,by omega,k3,k4⟩
 ·have e:opsW ((List.range len).map q)=((List.range len).map fun i=>(q i).ps.length+(q i).ks.length).sum:=by
   unfold opsW
   rw[List.map_map]
   rfl
  omega
end Go.Proofs.YthdjmldddjljfaaGreatDoor
