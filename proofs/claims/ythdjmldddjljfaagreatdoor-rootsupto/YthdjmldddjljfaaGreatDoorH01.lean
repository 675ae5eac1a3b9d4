/-
  OUR OWN.
-/
import Derived.WalkKit
set_option maxHeartbeats 8000000
set_option maxRecDepth 20000
namespace Go.Proofs.YthdjmldddjljfaaGreatDoor
abbrev e0:ByteArray:=⟨#[]⟩
inductive Nd where
 | nil
 | leaf (p:List Nat) (v:ByteArray)
 | ext (p:List Nat) (n:Nd)
 | br (c:Nat→Nd) (v:ByteArray)
def shared:List Nat→List Nat→Nat
 | a :: q,b :: p=>if a=b then shared q p+1 else 0
 | _,_=>0
theorem shared_le_left:∀q p:List Nat,shared q p≤q.length
 | [],p=>by simp[shared]
 | a :: q,[]=>by simp[shared]
 | a :: q,b :: p=>by
   unfold shared;split
   ·have:=shared_le_left q p;simp;omega
   ·simp
theorem shared_le_right:∀q p:List Nat,shared q p≤p.length
 | [],p=>by simp[shared]
 | a :: q,[]=>by simp[shared]
 | a :: q,b :: p=>by
   unfold shared;split
   ·have:=shared_le_right q p;simp;omega
   ·simp
theorem shared_take:∀q p:List Nat,q.take (shared q p)=p.take (shared q p)
 | [],p=>by simp[shared]
 | a :: q,[]=>by simp[shared]
 | a :: q,b :: p=>by
   unfold shared;split
   ·rename_i h;subst h;simp[shared_take q p]
   ·simp
theorem shared_ne:∀(q p:List Nat) (i j:Nat),q[shared q p]? = some i→p[shared q p]? = some j→i≠j
 | [],p,i,j,h,_=>by simp[shared] at h
 | a :: q,[],i,j,_,h=>by simp[shared] at h
 | a :: q,b :: p,i,j,h1,h2=>by
   unfold shared at h1 h2;split at h1
   ·rename_i h;rw[if_pos h] at h2;exact shared_ne q p i j (by simpa using h1) (by simpa using h2)
   ·rename_i h;rw[if_neg h] at h2
    simp at h1 h2
    omega
theorem shared_all:∀q p:List Nat,shared q p=q.length↔q <+: p
 | [],p=>by simp[shared]
 | a :: q,[]=>by simp[shared]
 | a :: q,b :: p=>by
   unfold shared;split
   ·rename_i h;subst h
    have:=shared_all q p
    simp[List.cons_prefix_cons,←this]
   ·rename_i h
    simp[List.cons_prefix_cons,h]
def Nd.look:Nd→List Nat→ByteArray
 | .nil=>fun _=>e0
 | .leaf q v=>fun p=>if q=p then v else e0
 | .ext q n=>fun p=>if q <+: p then n.look (p.drop q.length) else e0
 | .br c v=>fun p=>match p with
   | []=>v
   | i :: p=>(c i).look p
def upd (c:Nat→Nd)(i:Nat)(n:Nd):Nat→Nd:=fun j=>if j=i then n else c j
theorem upd_same (c:Nat→Nd)(i:Nat)(n:Nd):upd c i n i=n:=by simp[upd]
theorem upd_other (c:Nat→Nd)(i j:Nat)(n:Nd)(h:j≠i):upd c i n j=c j:=by simp[upd,h]
def Nd.ahead (p:List Nat):Nd→Nd
 | .leaf q v=>.leaf (p++q) v
 | .ext q n=>.ext (p++q) n
 | n=>if p=[] then n else .ext p n
def Nd.hang:Nd→List Nat→ByteArray→Nd
 | .br c _,[],x=>.br c x
 | .br c v,i :: p,x=>.br (upd c i (.leaf p x)) v
 | n,_,_=>n
def emptyBr:Nd:=.br (fun _=>.nil) e0
def behind (q:List Nat)(m:Nd)(n:Nat):Nd:=if n=q.length then m else .ext (q.drop n) m
def Nd.put:Nd→List Nat→ByteArray→Nd
 | .nil=>fun p v=>.leaf p v
 | .leaf q u=>fun p v=>if q=p then .leaf p v else .ahead (p.take (shared q p)) ((emptyBr.hang (q.drop (shared q p)) u).hang (p.drop (shared q p)) v)
 | .ext q m=>fun p v=>if shared q p=q.length then .ext q (m.put (p.drop (shared q p)) v)
    else .ahead (p.take (shared q p)) ((Nd.br (upd (fun _=>.nil) (q.getD (shared q p) 0) (behind q m (shared q p+1))) e0).hang (p.drop (shared q p)) v)
 | .br c u=>fun p v=>match p with
   | []=>.br c v
   | i :: p=>.br (upd c i ((c i).put p v)) u
def Nd.isNil:Nd→Bool
 | .nil=>true
 | _=>false
def Nd.isBr:Nd→Bool
 | .br _ _=>true
 | _=>false
def full (c:Nat→Nd):List Nat:=(List.range 16).filter (fun i=>!(c i).isNil)
def nParts (c:Nat→Nd)(v:ByteArray):Nat:=(if v.size=0 then 0 else 1)+(full c).length
def settle (c:Nat→Nd)(v:ByteArray):Nd :=
 if 1 < nParts c v then .br c v else if v.size≠0 then .leaf [] v else match full c with
  | i :: _=>.ahead [i] (c i)
  | []=>.nil
def Nd.remove:Nd→List Nat→Nd
 | .nil=>fun _=>.nil
 | .leaf _ _=>fun _=>.nil
 | .ext q m=>fun p=>.ahead q (m.remove (p.drop q.length))
 | .br c v=>fun p=>match p with
   | []=>settle c e0
   | i :: p=>settle (upd c i ((c i).remove p)) v
def Nd.WF:Nd→Prop
 | .nil=>True
 | .leaf p v=>v.size≠0∧∀x∈p,x<16
 | .ext p n=>p≠[]∧(∀x∈p,x<16)∧n.isBr=true∧n.WF
 | .br c v=>(∀i,(c i).WF)∧(∀i,16≤i→c i=.nil)∧2≤nParts c v
theorem look_ahead (p:List Nat)(n:Nd)(q:List Nat):(n.ahead p).look q=if p <+: q then n.look (q.drop p.length) else e0:=by
 have app:∀r:List Nat,p++r <+: q↔p <+: q∧r <+: q.drop p.length:=by
  intro r
  constructor
  ·rintro⟨t,rfl⟩
   exact⟨⟨r++t,by simp⟩,⟨t,by simp⟩⟩
  ·rintro⟨⟨s,rfl⟩,⟨t,ht⟩⟩
   rw[List.drop_left] at ht
   exact⟨t,by rw[←ht];simp⟩
 cases n with
 | nil =>
   simp only[Nd.ahead]
   split
   ·rename_i h;subst h;simp[Nd.look]
   ·simp[Nd.look]
 | leaf r v =>
   simp only[Nd.ahead,Nd.look]
   by_cases h:p <+: q
   ·obtain⟨s,rfl⟩:=h
    simp
   ·rw[if_neg h,if_neg (fun e=>h ⟨r,e⟩)]
 | ext r m =>
   simp only[Nd.ahead,Nd.look,app,List.length_append,List.drop_drop]
   by_cases h:p <+: q
   ·simp[h]
   ·simp[h]
 | br c v =>
   simp only[Nd.ahead]
   split
   ·rename_i h;subst h;simp
   ·simp[Nd.look]
theorem split_at (p q:List Nat)(n:Nat)(hn:n≤p.length)(h:p.take n <+: q):∃s,q=p.take n++s∧q.drop n=s:=by
 obtain⟨s,rfl⟩:=h
 exact⟨s,rfl,by rw[List.drop_append_of_le_length (by simp;omega)];simp⟩
theorem hang_br (n:Nd)(h:n.isBr=true)(p:List Nat)(x:ByteArray):(n.hang p x).isBr=true:=by
 cases n<;>simp[Nd.isBr] at h
 cases p<;>rfl
theorem look_hang (c:Nat→Nd)(u:ByteArray)(p:List Nat)(x:ByteArray)(q:List Nat)(hc:∀i r,p=i :: r→c i=.nil)(hu:p=[]→u=e0) :
  ((Nd.br c u).hang p x).look q=if p=q then x else (Nd.br c u).look q:=by
 cases p with
 | nil =>
   cases q with
   | nil=>simp[Nd.hang,Nd.look]
   | cons j q=>simp[Nd.hang,Nd.look]
 | cons i p =>
   cases q with
   | nil=>simp[Nd.hang,Nd.look]
   | cons j q =>
     simp only[Nd.hang,Nd.look,upd]
     by_cases h:j=i
     ·subst h
      rw[if_pos rfl,hc j p rfl]
      simp[Nd.look]
     ·rw[if_neg h,if_neg (by simp;omega)]
theorem e0_of {v:ByteArray}(h:v.size=0):v=e0:=ByteArray.ext (Array.eq_empty_of_size_eq_zero h)
theorem isNil_iff (n:Nd):n.isNil=true↔n=.nil:=by cases n<;>simp[Nd.isNil]
theorem notNil_iff (n:Nd):n.isNil=false↔n≠.nil:=by cases n<;>simp[Nd.isNil]
theorem filt_turn (f g:Nat→Bool)(i:Nat):∀(L:List Nat),L.Nodup→(∀j,j≠i→f j=g j)→(L.filter f).length+(if i∈L∧g i=true then 1 else 0)=(L.filter g).length+(if i∈L∧f i=true then 1 else 0)
 | [],_,_=>by simp
 | a :: L,hn,h=>by
   have ih:=filt_turn f g i L (List.nodup_cons.1 hn).2 h
   have ha:=(List.nodup_cons.1 hn).1
   by_cases e:a=i
   ·subst e
    simp only[List.mem_cons,true_or,true_and]
    simp only[ha,false_and,if_false,Nat.add_zero] at ih
    cases hf:f a<;>cases hg:g a<;>simp[hf,hg]<;>omega
   ·have hfg:=h a e
    have hm:i∈a :: L↔i∈L:=by simp[Ne.symm e]
    simp only[hm]
    cases hf:f a with
    | true =>
      have hg:g a=true:=by rw[←hfg];exact hf
      simp only[List.filter_cons,hf,hg,if_true,List.length_cons]
      omega
    | false =>
      have hg:g a=false:=by rw[←hfg];exact hf
      simp only[List.filter_cons,hf,hg,Bool.false_eq_true,if_false]
      exact ih
theorem full_upd (c:Nat→Nd)(i:Nat)(n:Nd)(hi:i<16):(full (upd c i n)).length+(if (c i).isNil=true then 0 else 1)=(full c).length+(if n.isNil=true then 0 else 1):=by
 have h:=filt_turn (fun j=>!(upd c i n j).isNil) (fun j=>!(c j).isNil) i (List.range 16) List.nodup_range (fun j hj=>by simp only[upd_other c i j n hj])
 have hm:i∈List.range 16:=by simpa using hi
 simp only[hm,true_and,upd_same] at h
 unfold full
 cases h1:(c i).isNil<;>cases h2:n.isNil<;>simp[h1,h2] at h ⊢<;>omega
theorem full_mem (c:Nat→Nd)(i:Nat):i∈full c↔i<16∧c i≠.nil:=by
 unfold full
 rw[List.mem_filter]
 simp only[List.mem_range,Bool.not_eq_true', notNil_iff]
theorem look_put:∀(n:Nd) (p:List Nat) (v:ByteArray) (r:List Nat),(n.put p v).look r=if p=r then v else n.look r
 | .nil,p,v,r=>by simp[Nd.put,Nd.look]
 | .leaf q u,p,v,r=>by
   simp only[Nd.put]
   by_cases h:q=p
   ·subst h
    simp only[if_true,Nd.look]
    split<;>rfl
   ·rw[if_neg h]
    have hl:=shared_le_left q p
    have hr:=shared_le_right q p
    have ht:=shared_take q p
    have hne:=shared_ne q p
    generalize shared q p=n at *
    have hp:p.take n++p.drop n=p:=List.take_append_drop _ _
    have hq:p.take n++q.drop n=q:=by rw[←ht];exact List.take_append_drop _ _
    have hd:q.drop n≠p.drop n:=fun e=>h (by rw[←hp,←hq,e])
    have hf:∀s,((emptyBr.hang (q.drop n) u).hang (p.drop n) v).look s=if p.drop n=s then v else if q.drop n=s then u else e0:=by
     intro s
     have h1:∀s,(emptyBr.hang (q.drop n) u).look s=if q.drop n=s then u else e0:=by
      intro s
      unfold emptyBr
      rw[look_hang _ _ _ _ _ (fun _ _ _=>rfl) (fun _=>rfl)]
      cases s<;>simp[Nd.look]
     rw[←h1 s]
     cases hqd:q.drop n with
     | nil =>
       unfold emptyBr
       simp only[Nd.hang]
       exact look_hang _ _ _ _ _ (fun _ _ _=>rfl) (fun e=>absurd (hqd.trans e.symm) hd)
     | cons i t =>
       unfold emptyBr
       simp only[Nd.hang]
       refine look_hang _ _ _ _ _ (fun j t2 e=>?_) (fun _=>rfl)
       refine upd_other _ _ _ _ (fun e2=>?_)
       subst e2
       refine hne j j ?_ ?_ rfl
       ·have:=congrArg (fun l=>l[0]?) hqd
        simpa[List.getElem?_drop] using this
       ·have:=congrArg (fun l=>l[0]?) e
        simpa[List.getElem?_drop] using this
    rw[look_ahead,List.length_take,Nat.min_eq_left hr]
    by_cases hpre:p.take n <+: r
    ·obtain⟨s,rfl,hs⟩:=split_at p r n hr hpre
     rw[if_pos hpre,hs,hf]
     have e1:(p=p.take n++s)↔(p.drop n=s):=by
      constructor
      ·intro e;exact List.append_cancel_left (hp.trans e)
      ·intro e;rw[←e,hp]
     have e2:(q=p.take n++s)↔(q.drop n=s):=by
      constructor
      ·intro e;exact List.append_cancel_left (hq.trans e)
      ·intro e;rw[←e,hq]
     simp only[e1,e2,Nd.look]
    ·rw[if_neg hpre,if_neg (fun e=>hpre (by rw[←e];exact List.take_prefix _ _))]
     simp only[Nd.look]
     rw[if_neg (fun e=>hpre (by rw[←e,←ht];exact List.take_prefix _ _))]
 | .ext q m,p,v,r=>by
   simp only[Nd.put]
   by_cases h:shared q p=q.length
   ·rw[if_pos h]
    have hpre:=(shared_all q p).1 h
    rw[h]
    obtain⟨s,rfl⟩:=hpre
    simp only[Nd.look,List.drop_left]
    by_cases hr:q <+: r
    ·obtain⟨t,rfl⟩:=hr
     simp[look_put m s v t]
    ·rw[if_neg hr,if_neg hr,if_neg (fun e=>hr (by rw[←e];exact List.prefix_append _ _))]
   ·rw[if_neg h]
    have hl:=shared_le_left q p
    have hr:=shared_le_right q p
    have ht:=shared_take q p
    have hne:=shared_ne q p
    have hlt:shared q p<q.length:=by omega
    generalize shared q p=n at *
    have hp:p.take n++p.drop n=p:=List.take_append_drop _ _
    have hq:p.take n++q.drop n=q:=by rw[←ht];exact List.take_append_drop _ _
    have hqn:q.drop n=q.getD n 0 :: q.drop (n+1):=by
     rw[List.drop_eq_getElem_cons hlt]
     simp[List.getD_eq_getElem?_getD,hlt]
    have hb:∀s,(Nd.br (upd (fun _=>.nil) (q.getD n 0) (behind q m (n+1))) e0).look s=(Nd.ext (q.drop n) m).look s:=by
     intro s
     simp only[Nd.look]
     cases s with
     | nil=>rw[if_neg (by rw[hqn];simp)]
     | cons j s =>
       simp only[upd]
       rw[hqn]
       by_cases hj:j=q.getD n 0
       ·subst hj
        rw[if_pos rfl]
        simp only[List.cons_prefix_cons,true_and,List.length_cons,List.drop_succ_cons]
        unfold behind
        split
        ·rename_i e
         rw[e,List.drop_length]
         simp
        ·simp[Nd.look]
       ·rw[if_neg hj]
        rw[if_neg (fun e=>hj (List.cons_prefix_cons.1 e).1.symm)]
        rfl
    have hf:∀s,((Nd.br (upd (fun _=>.nil) (q.getD n 0) (behind q m (n+1))) e0).hang (p.drop n) v).look s=if p.drop n=s then v else (Nd.ext (q.drop n) m).look s:=by
     intro s
     rw[←hb s]
     refine look_hang _ _ _ _ _ (fun j t2 e=>?_) (fun _=>rfl)
     refine upd_other _ _ _ _ (fun e2=>?_)
     refine hne (q.getD n 0) j ?_ ?_ e2.symm
     ·have:=congrArg (fun l=>l[0]?) hqn
      simpa[List.getElem?_drop] using this
     ·have:=congrArg (fun l=>l[0]?) e
      simpa[List.getElem?_drop] using this
    rw[look_ahead,List.length_take,Nat.min_eq_left hr]
    by_cases hpre:p.take n <+: r
    ·obtain⟨s,rfl,hs⟩:=split_at p r n hr hpre
     rw[if_pos hpre,hs,hf]
     have e1:(p=p.take n++s)↔(p.drop n=s):=by
      constructor
      ·intro e;exact List.append_cancel_left (hp.trans e)
      ·intro e;rw[←e,hp]
     simp only[e1,Nd.look]
     have e2:(q <+: p.take n++s)↔(q.drop n <+: s):=by
      conv=>lhs;rw[←hq]
      exact List.prefix_append_right_inj _
     have e3:(p.take n++s).drop q.length=s.drop (q.drop n).length:=by
      have hlen:q.length=(p.take n).length+(q.drop n).length:=by conv=>lhs;rw[←hq,List.length_append]
      rw[hlen,←List.drop_drop,List.drop_left]
     simp only[e2,e3]
    ·rw[if_neg hpre,if_neg (fun e=>hpre (by rw[←e];exact List.take_prefix _ _))]
     simp only[Nd.look]
     rw[if_neg (fun e=>hpre (by
      have h1:p.take n <+: q:=by rw[←ht];exact List.take_prefix _ _
      exact h1.trans e))]
 | .br c u,p,v,r=>by
   cases p with
   | nil=>cases r<;>simp[Nd.put,Nd.look]
   | cons i p =>
     cases r with
     | nil=>simp[Nd.put,Nd.look]
     | cons j r =>
       simp only[Nd.put,Nd.look,upd]
       by_cases h:j=i
       ·subst h;simp[look_put (c j) p v r]
       ·rw[if_neg h,if_neg (by simp;omega)]
theorem ahead_WF {p:List Nat}{n:Nd}(hp:∀x∈p,x<16)(hn:n≠.nil)(h:n.WF):(n.ahead p).WF:=by
 cases n with
 | nil=>exact absurd rfl hn
 | leaf q v =>
   refine⟨h.1,fun x hx=>?_⟩
   rcases List.mem_append.1 hx with hx|hx
   ·exact hp x hx
   ·exact h.2 x hx
 | ext q m =>
   obtain⟨h1,h2,h3,h4⟩:=h
   refine⟨by simp[h1],fun x hx=>?_,h3,h4⟩
   rcases List.mem_append.1 hx with hx|hx
   ·exact hp x hx
   ·exact h2 x hx
 | br c v =>
   simp only[Nd.ahead]
   split
   ·exact h
   ·rename_i h0;exact⟨h0,hp,rfl,h⟩
theorem ahead_ne {p:List Nat}{n:Nd}(hn:n≠.nil):n.ahead p≠.nil:=by
 cases n with
 | nil=>exact absurd rfl hn
 | leaf q v=>simp[Nd.ahead]
 | ext q m=>simp[Nd.ahead]
 | br c v =>
   simp only[Nd.ahead]
   split<;>simp
def pBr:Nd→Prop
 | .br c _=>(∀i,(c i).WF)∧∀i,16≤i→c i=.nil
 | _=>False
def cnt:Nd→Nat
 | .br c v=>nParts c v
 | _=>0
theorem nParts_none:nParts (fun _=>.nil) e0=0:=by
 have:full (fun _=>.nil)=[]:=by
  unfold full
  rw[List.filter_eq_nil_iff]
  intro a _;simp[Nd.isNil]
 unfold nParts
 rw[this]
 rfl
theorem upd_pBr {c:Nat→Nd}{v u:ByteArray}{i:Nat}{n:Nd}(h:pBr (.br c v))(hi:i<16)(hn:n.WF):pBr (.br (upd c i n) u):=by
 refine⟨fun j=>?_,fun j hj=>?_⟩
 ·unfold upd;split
  ·exact hn
  ·exact h.1 j
 ·rw[upd_other _ _ _ _ (by omega)];exact h.2 j hj
theorem nParts_upd (c:Nat→Nd)(v:ByteArray)(i:Nat)(n:Nd)(hi:i<16):nParts (upd c i n) v+(if (c i).isNil=true then 0 else 1)=nParts c v+(if n.isNil=true then 0 else 1):=by
 have:=full_upd c i n hi
 unfold nParts
 omega
theorem nParts_val (c:Nat→Nd)(u v:ByteArray):nParts c v+(if u.size=0 then 0 else 1)=nParts c u+(if v.size=0 then 0 else 1):=by
 unfold nParts
 omega
theorem hang_pBr {n:Nd}(h:pBr n){p:List Nat}{x:ByteArray}(hp:∀y∈p,y<16)(hx:x.size≠0):pBr (n.hang p x):=by
 cases n with
 | br c v =>
   cases p with
   | nil=>exact h
   | cons i p =>
     exact upd_pBr (v:=v) h (hp i (List.mem_cons_self ..)) ⟨hx,fun y hy=>hp y (List.mem_cons_of_mem _ hy)⟩
 | nil=>exact h.elim
 | leaf _ _=>exact h.elim
 | ext _ _=>exact h.elim
theorem hang_cnt {n:Nd}(h:pBr n){p:List Nat}{x:ByteArray}(hp:∀y∈p,y<16)(hx:x.size≠0)(hnew:(p=[]→∀c v,n=.br c v→v.size=0)∧∀i r,p=i :: r→∀c v,n=.br c v→c i=.nil):cnt (n.hang p x)=cnt n+1:=by
 cases n with
 | br c v =>
   cases p with
   | nil =>
     have h1:=nParts_val c v x
     have h2:=hnew.1 rfl c v rfl
     simp only[Nd.hang,cnt]
     rw[if_pos h2,if_neg hx] at h1
     omega
   | cons i p =>
     have h1:=nParts_upd c v i (.leaf p x) (hp i (List.mem_cons_self ..))
     rw[hnew.2 i p rfl c v rfl] at h1
     simp only[Nd.hang,cnt]
     simp[Nd.isNil] at h1
     exact h1
 | nil=>exact h.elim
 | leaf _ _=>exact h.elim
 | ext _ _=>exact h.elim
theorem pBr_WF {n:Nd}(h:pBr n)(hc:2≤cnt n):n.WF∧n.isBr=true∧n≠.nil:=by
 cases n with
 | br c v=>exact⟨⟨h.1,h.2,hc⟩,rfl,by simp⟩
 | nil=>exact h.elim
 | leaf _ _=>exact h.elim
 | ext _ _=>exact h.elim
theorem put_ne (n:Nd)(p:List Nat)(v:ByteArray):n.put p v≠.nil:=by
 cases n with
 | nil=>simp[Nd.put]
 | leaf q u =>
   simp only[Nd.put]
   split
   ·simp
   ·refine ahead_ne (fun e=>?_)
    have:((emptyBr.hang (q.drop (shared q p)) u).hang (p.drop (shared q p)) v).isBr=true:=hang_br _ (hang_br _ rfl _ _) _ _
    rw[e] at this
    cases this
 | ext q m =>
   simp only[Nd.put]
   split
   ·simp
   ·refine ahead_ne (fun e=>?_)
    have:((Nd.br (upd (fun _=>.nil) (q.getD (shared q p) 0) (behind q m (shared q p+1))) e0).hang (p.drop (shared q p)) v).isBr=true:=hang_br _ rfl _ _
    rw[e] at this
    cases this
 | br c u=>cases p<;>simp[Nd.put]
theorem put_isBr {n:Nd}(h:n.isBr=true)(p:List Nat)(v:ByteArray):(n.put p v).isBr=true:=by
 cases n<;>simp[Nd.isBr] at h
 cases p<;>simp[Nd.put,Nd.isBr]
theorem put_WF:∀(n:Nd) (p:List Nat) (v:ByteArray),n.WF→(∀x∈p,x<16)→v.size≠0→(n.put p v).WF
 | .nil,p,v,_,hp,hv=>⟨hv,hp⟩
 | .leaf q u,p,v,hn,hp,hv=>by
   simp only[Nd.put]
   by_cases h:q=p
   ·rw[if_pos h];exact⟨hv,hp⟩
   ·rw[if_neg h]
    have hl:=shared_le_left q p
    have hr:=shared_le_right q p
    have ht:=shared_take q p
    have hne:=shared_ne q p
    generalize shared q p=n at *
    have hp1:p.take n++p.drop n=p:=List.take_append_drop _ _
    have hq1:p.take n++q.drop n=q:=by rw[←ht];exact List.take_append_drop _ _
    have hd:q.drop n≠p.drop n:=fun e=>h (by rw[←hp1,←hq1,e])
    have hqd:∀y∈q.drop n,y<16:=fun y hy=>hn.2 y (List.mem_of_mem_drop hy)
    have hpd:∀y∈p.drop n,y<16:=fun y hy=>hp y (List.mem_of_mem_drop hy)
    have h0:pBr emptyBr:=⟨fun _=>trivial,fun _ _=>rfl⟩
    have h1:=hang_pBr h0 hqd hn.1
    have c1:cnt (emptyBr.hang (q.drop n) u)=cnt emptyBr+1:=hang_cnt h0 hqd hn.1 ⟨fun _ c v e=>by injection e with e1 e2;subst e2;rfl,fun _ _ _ c v e=>by injection e with e1 e2;subst e1;rfl⟩
    have h2:=hang_pBr h1 hpd hv
    have c2:cnt ((emptyBr.hang (q.drop n) u).hang (p.drop n) v)=cnt (emptyBr.hang (q.drop n) u)+1:=by
     refine hang_cnt h1 hpd hv ⟨fun e c w e2=>?_,fun i t e c w e2=>?_⟩
     ·cases hqd' : q.drop n with
      | nil=>exact absurd (hqd'.trans e.symm) hd
      | cons j r =>
        rw[hqd'] at e2
        injection e2 with e3 e4
        subst e4;rfl
     ·cases hqd' : q.drop n with
      | nil =>
        rw[hqd'] at e2
        injection e2 with e3 e4
        subst e3;rfl
      | cons j r =>
        rw[hqd'] at e2
        injection e2 with e3 e4
        subst e3
        refine upd_other _ _ _ _ (fun e5=>?_)
        subst e5
        refine hne i i ?_ ?_ rfl
        ·have:=congrArg (fun l=>l[0]?) hqd'
         simpa[List.getElem?_drop] using this
        ·have:=congrArg (fun l=>l[0]?) e
         simpa[List.getElem?_drop] using this
    have c0:cnt emptyBr=0:=nParts_none
    obtain⟨w1,w2,w3⟩:=pBr_WF h2 (by omega)
    exact ahead_WF (fun x hx=>hp x (List.mem_of_mem_take hx)) w3 w1
 | .ext q m,p,v,hn,hp,hv=>by
   obtain⟨n1,n2,n3,n4⟩:=hn
   simp only[Nd.put]
   by_cases h:shared q p=q.length
   ·rw[if_pos h]
    exact⟨n1,n2,put_isBr n3 _ _,put_WF m _ v n4 (fun x hx=>hp x (List.mem_of_mem_drop hx)) hv⟩
   ·rw[if_neg h]
    have hl:=shared_le_left q p
    have hr:=shared_le_right q p
    have hne:=shared_ne q p
    have hlt:shared q p<q.length:=by omega
    generalize shared q p=n at *
    have hqn:q[n]? = some (q.getD n 0):=by simp[List.getD_eq_getElem?_getD,hlt]
    have hq16:q.getD n 0 < 16:=by
     have e:q.getD n 0=q[n]:=by simp[List.getD_eq_getElem?_getD,hlt]
     rw[e];exact n2 _ (List.getElem_mem hlt)
    have hb:(behind q m (n+1)).WF∧behind q m (n+1)≠.nil:=by
     unfold behind
     split
     ·exact⟨n4,fun e=>by rw[e] at n3;cases n3⟩
     ·refine⟨⟨?_,fun x hx=>n2 x (List.mem_of_mem_drop hx),n3,n4⟩,by simp⟩
      intro e
      have:=List.drop_eq_nil_iff.1 e
      omega
    have h0:pBr (Nd.br (fun _=>.nil) e0):=⟨fun _=>trivial,fun _ _=>rfl⟩
    have h1:pBr (Nd.br (upd (fun _=>.nil) (q.getD n 0) (behind q m (n+1))) e0):=upd_pBr h0 hq16 hb.1
    have c1:cnt (Nd.br (upd (fun _=>.nil) (q.getD n 0) (behind q m (n+1))) e0)=1:=by
     have h3:=nParts_upd (fun _=>.nil) e0 (q.getD n 0) (behind q m (n+1)) hq16
     rw[nParts_none,(notNil_iff _).2 hb.2] at h3
     simp[Nd.isNil] at h3
     exact h3
    have hpd:∀y∈p.drop n,y<16:=fun y hy=>hp y (List.mem_of_mem_drop hy)
    have h2:=hang_pBr h1 hpd hv
    have c2:=hang_cnt h1 hpd hv ⟨fun e c w e2=>by injection e2 with e3 e4;subst e4;rfl,fun i t e c w e2=>by
     injection e2 with e3 e4
     subst e3
     refine upd_other _ _ _ _ (fun e5=>?_)
     refine hne (q.getD n 0) i hqn ?_ e5.symm
     have:=congrArg (fun l=>l[0]?) e
     simpa[List.getElem?_drop] using this⟩
    obtain⟨w1,w2,w3⟩:=pBr_WF h2 (by omega)
    exact ahead_WF (fun x hx=>hp x (List.mem_of_mem_take hx)) w3 w1
 | .br c u,p,v,hn,hp,hv=>by
   obtain⟨n1,n2,n3⟩:=hn
   cases p with
   | nil =>
     simp only[Nd.put]
     refine⟨n1,n2,?_⟩
     have:=nParts_val c u v
     rw[if_neg hv] at this
     split at this<;>omega
   | cons i p =>
     have hi:=hp i (List.mem_cons_self ..)
     have hw:=put_WF (c i) p v (n1 i) (fun x hx=>hp x (List.mem_cons_of_mem _ hx)) hv
     have hb:pBr (Nd.br (upd c i ((c i).put p v)) u):=upd_pBr (v:=u) ⟨n1,n2⟩ hi hw
     simp only[Nd.put]
     refine⟨hb.1,hb.2,?_⟩
     have:=nParts_upd c u i ((c i).put p v) hi
     rw[(notNil_iff _).2 (put_ne (c i) p v)] at this
     simp at this
     split at this<;>omega
theorem full_nil {c:Nat→Nd}(hc:∀i,16≤i→c i=.nil)(h:full c=[])(i:Nat):c i=.nil:=by
 by_cases hi:i<16
 ·cases hn:c i with
  | nil=>rfl
  | _ =>
    have:i∈full c:=(full_mem c i).2 ⟨hi,by rw[hn];simp⟩
    rw[h] at this;simp at this
 ·exact hc i (by omega)
theorem full_one {c:Nat→Nd}(hc:∀i,16≤i→c i=.nil){k:Nat}(h:full c=[k])(i:Nat)(hi:i≠k):c i=.nil:=by
 by_cases h16:i<16
 ·cases hn:c i with
  | nil=>rfl
  | _ =>
    have:i∈full c:=(full_mem c i).2 ⟨h16,by rw[hn];simp⟩
    rw[h] at this;simp at this;exact absurd this hi
 ·exact hc i (by omega)
theorem settle_cases (c:Nat→Nd)(v:ByteArray):(1 < nParts c v∧settle c v=.br c v)∨(v.size≠0∧full c=[]∧settle c v=.leaf [] v)∨(v=e0∧(∃k,full c=[k]∧settle c v=(c k).ahead [k]))∨(v=e0∧full c=[]∧settle c v=.nil):=by
 unfold settle
 by_cases h1:1 < nParts c v
 ·exact .inl ⟨h1,if_pos h1⟩
 ·rw[if_neg h1]
  by_cases h2:v.size≠0
  ·refine .inr (.inl ⟨h2,?_,if_pos h2⟩)
   unfold nParts at h1
   rw[if_neg h2] at h1
   exact List.length_eq_zero_iff.1 (by omega)
  ·rw[if_neg h2]
   have hv:v=e0:=e0_of (by omega)
   have h3:(full c).length≤1:=by
    unfold nParts at h1
    omega
   cases hf:full c with
   | nil=>exact .inr (.inr (.inr ⟨hv,rfl,rfl⟩))
   | cons k r =>
     rw[hf] at h3
     obtain rfl:r=[]:=List.length_eq_zero_iff.1 (by simpa using h3)
     exact .inr (.inr (.inl ⟨hv,k,rfl,rfl⟩))
theorem look_settle (c:Nat→Nd)(v:ByteArray)(hc:∀i,16≤i→c i=.nil)(r:List Nat):(settle c v).look r=(Nd.br c v).look r:=by
 rcases settle_cases c v with⟨_,h⟩|⟨_,h1,h⟩|⟨hv,k,h1,h⟩|⟨hv,h1,h⟩
 ·rw[h]
 ·rw[h]
  cases r with
  | nil=>simp[Nd.look]
  | cons i r=>simp[Nd.look,full_nil hc h1 i]
 ·rw[h,look_ahead]
  subst hv
  cases r with
  | nil=>simp[Nd.look]
  | cons i r =>
    by_cases hi:i=k
    ·subst hi;simp[Nd.look]
    ·rw[if_neg (by simp[List.cons_prefix_cons];omega)]
     simp[Nd.look,full_one hc h1 i hi]
 ·rw[h]
  subst hv
  cases r with
  | nil=>simp[Nd.look]
  | cons i r=>simp[Nd.look,full_nil hc h1 i]
theorem settle_WF {c:Nat→Nd}{v:ByteArray}(h:pBr (.br c v)):(settle c v).WF:=by
 rcases settle_cases c v with⟨h1,h2⟩|⟨h1,_,h2⟩|⟨_,k,h1,h2⟩|⟨_,_,h2⟩
 ·rw[h2];exact⟨h.1,h.2,h1⟩
 ·rw[h2];exact⟨h1,fun x hx=>by simp at hx⟩
 ·rw[h2]
  have hk:k∈full c:=by rw[h1];simp
  obtain⟨k1,k2⟩:=(full_mem c k).1 hk
  exact ahead_WF (fun x hx=>by simp at hx;omega) k2 (h.1 k)
 ·rw[h2];trivial
theorem settle_ne {c:Nat→Nd}{v:ByteArray}(h:1≤nParts c v):settle c v≠.nil:=by
 rcases settle_cases c v with⟨_,h2⟩|⟨_,_,h2⟩|⟨_,k,h1,h2⟩|⟨hv,h1,h2⟩
 ·rw[h2];simp
 ·rw[h2];simp
 ·rw[h2]
  have hk:k∈full c:=by rw[h1];simp
  exact ahead_ne ((full_mem c k).1 hk).2
 ·unfold nParts at h
  rw[h1,hv] at h
  simp at h
  exact absurd h (by decide)
theorem remove_br_ne {n:Nd}(h:n.WF)(hb:n.isBr=true){p:List Nat}(hp:∀x∈p,x<16):n.remove p≠.nil:=by
 cases n with
 | br c v =>
   obtain⟨n1,n2,n3⟩:=h
   cases p with
   | nil =>
     simp only[Nd.remove]
     refine settle_ne ?_
     have h1:=nParts_val c v e0
     have h2:e0.size=0:=rfl
     rw[if_pos h2] at h1
     split at h1<;>omega
   | cons i p =>
     simp only[Nd.remove]
     refine settle_ne ?_
     have h1:=nParts_upd c v i ((c i).remove p) (hp i (List.mem_cons_self ..))
     split at h1<;>split at h1<;>omega
 | nil=>cases hb
 | leaf _ _=>cases hb
 | ext _ _=>cases hb
theorem remove_WF:∀(n:Nd) (p:List Nat),n.WF→(∀x∈p,x<16)→(n.remove p).WF
 | .nil,p,_,_=>by simp[Nd.remove,Nd.WF]
 | .leaf q u,p,_,_=>by simp[Nd.remove,Nd.WF]
 | .ext q m,p,hn,hp=>by
   obtain⟨n1,n2,n3,n4⟩:=hn
   simp only[Nd.remove]
   have hd:∀x∈p.drop q.length,x<16:=fun x hx=>hp x (List.mem_of_mem_drop hx)
   exact ahead_WF n2 (remove_br_ne n4 n3 hd) (remove_WF m _ n4 hd)
 | .br c u,p,hn,hp=>by
   obtain⟨n1,n2,n3⟩:=hn
   cases p with
   | nil=>simp only[Nd.remove];exact settle_WF ⟨n1,n2⟩
   | cons i p =>
     simp only[Nd.remove]
     exact settle_WF (upd_pBr (v:=u) ⟨n1,n2⟩ (hp i (List.mem_cons_self ..)) (remove_WF (c i) p (n1 i) (fun x hx=>hp x (List.mem_cons_of_mem _ hx))))
theorem look_remove:∀(n:Nd) (p r:List Nat),n.WF→(∀x∈p,x<16)→(n.look p).size≠0→(n.remove p).look r=if p=r then e0 else n.look r
 | .nil,p,r,_,_,h=>by simp[Nd.look,ByteArray.size] at h
 | .leaf q u,p,r,_,_,h=>by
   simp only[Nd.look] at h
   split at h
   ·rename_i e;subst e
    simp only[Nd.remove,Nd.look]
    split<;>rfl
   ·simp[ByteArray.size] at h
 | .ext q m,p,r,hn,hp,h=>by
   obtain⟨n1,n2,n3,n4⟩:=hn
   simp only[Nd.look] at h
   split at h
   ·rename_i e
    obtain⟨s,rfl⟩:=e
    rw[List.drop_left] at h
    simp only[Nd.remove,look_ahead,List.drop_left,Nd.look]
    by_cases hr:q <+: r
    ·obtain⟨t,rfl⟩:=hr
     have ih:=look_remove m s t n4 (fun x hx=>hp x (List.mem_append_right _ hx)) h
     simp[ih]
    ·rw[if_neg hr,if_neg hr,if_neg (fun e=>hr (by rw[←e];exact List.prefix_append _ _))]
   ·simp[ByteArray.size] at h
 | .br c u,p,r,hn,hp,h=>by
   obtain⟨n1,n2,n3⟩:=hn
   cases p with
   | nil =>
     simp only[Nd.remove]
     rw[look_settle _ _ n2]
     cases r<;>simp[Nd.look]
   | cons i p =>
     simp only[Nd.remove]
     have hi:=hp i (List.mem_cons_self ..)
     rw[look_settle _ _ (fun j hj=>by rw[upd_other _ _ _ _ (by omega)];exact n2 j hj)]
     cases r with
     | nil=>simp[Nd.look]
     | cons j r =>
       simp only[Nd.look,upd]
       simp only[Nd.look] at h
       by_cases hj:j=i
       ·subst hj
        simp[look_remove (c j) p r (n1 j) (fun x hx=>hp x (List.mem_cons_of_mem _ hx)) h]
       ·rw[if_neg hj,if_neg (by simp;omega)]
theorem look_some:∀(n:Nd),n.WF→n≠.nil→∃p,(n.look p).size≠0∧∀x∈p,x<16
 | .nil,_,h=>absurd rfl h
 | .leaf q u,h,_=>⟨q,by simp only[Nd.look,if_true];exact h.1,h.2⟩
 | .ext q m,h,_=>by
   obtain⟨n1,n2,n3,n4⟩:=h
   obtain⟨p,hp,hx⟩:=look_some m n4 (fun e=>by rw[e] at n3;cases n3)
   refine⟨q++p,by simp only[Nd.look];simpa using hp,fun x hx2=>?_⟩
   rcases List.mem_append.1 hx2 with h|h
   ·exact n2 x h
   ·exact hx x h
 | .br c u,h,_=>by
   obtain⟨n1,n2,n3⟩:=h
   by_cases hu:u.size=0
   ·have hl:2≤(full c).length:=by unfold nParts at n3;rw[if_pos hu] at n3;omega
    cases hf:full c with
    | nil=>rw[hf] at hl;simp at hl
    | cons k t =>
      have hk:k∈full c:=by rw[hf];simp
      obtain⟨k1,k2⟩:=(full_mem c k).1 hk
      obtain⟨p,hp,hx⟩:=look_some (c k) (n1 k) k2
      refine⟨k :: p,by simp only[Nd.look];exact hp,fun x hx2=>?_⟩
      rcases List.mem_cons.1 hx2 with rfl|h
      ·exact k1
      ·exact hx x h
   ·exact⟨[],by simp only[Nd.look];exact hu,fun x hx=>by simp at hx⟩
theorem e0_size:e0.size=0:=rfl
theorem look_nil' (c:Nat→Nd)(v:ByteArray):(Nd.br c v).look []=v:=by simp[Nd.look]
theorem look_cons (c:Nat→Nd)(v:ByteArray)(i:Nat)(p:List Nat):(Nd.br c v).look (i :: p)=(c i).look p:=by simp[Nd.look]
theorem look_ext_pre {q p:List Nat}{m:Nd}(h:((Nd.ext q m).look p).size≠0):q <+: p:=by
 simp only[Nd.look] at h
 split at h
 ·assumption
 ·exact absurd e0_size h
theorem look_leaf_eq {q p:List Nat}{u:ByteArray}(h:((Nd.leaf q u).look p).size≠0):q=p:=by
 simp only[Nd.look] at h
 split at h
 ·assumption
 ·exact absurd e0_size h
theorem look_ext_app (q p:List Nat)(m:Nd):(Nd.ext q m).look (q++p)=m.look p:=by simp[Nd.look]
def plt:List Nat→List Nat→Prop
 | [],[]=>False
 | [],_ :: _=>True
 | _ :: _,[]=>False
 | a :: p,b :: q=>a<b∨(a=b∧plt p q)
theorem plt_irrefl:∀p,¬plt p p
 | [],h=>h
 | a :: p,h=>by
   rcases h with h|⟨_,h⟩
   ·omega
   ·exact plt_irrefl p h
theorem plt_trans:∀{p q r},plt p q→plt q r→plt p r
 | [],[],_,h,_=>h.elim
 | [],_ :: _,[],_,h=>h.elim
 | [],_ :: _,_ :: _,_,_=>trivial
 | _ :: _,[],_,h,_=>h.elim
 | _ :: _,_ :: _,[],_,h=>h.elim
 | a :: p,b :: q,c :: r,h1,h2=>by
   rcases h1 with h1|⟨rfl,h1⟩
   ·rcases h2 with h2|⟨rfl,_⟩
    ·exact .inl (by omega)
    ·exact .inl h1
   ·rcases h2 with h2|⟨rfl,h2⟩
    ·exact .inl h2
    ·exact .inr ⟨rfl,plt_trans h1 h2⟩
theorem plt_total:∀p q,plt p q∨p=q∨plt q p
 | [],[]=>.inr (.inl rfl)
 | [],_ :: _=>.inl trivial
 | _ :: _,[]=>.inr (.inr trivial)
 | a :: p,b :: q=>by
   rcases Nat.lt_trichotomy a b with h|rfl|h
   ·exact .inl (.inl h)
   ·rcases plt_total p q with h|rfl|h
    ·exact .inl (.inr ⟨rfl,h⟩)
    ·exact .inr (.inl rfl)
    ·exact .inr (.inr (.inr ⟨rfl,h⟩))
   ·exact .inr (.inr (.inl h))
theorem plt_app:∀(p q r:List Nat),plt (p++q) (p++r)↔plt q r
 | [],_,_=>Iff.rfl
 | a :: p,q,r=>by
   have ih:=plt_app p q r
   show (a<a∨(a=a∧plt (p++q) (p++r)))↔_
   constructor
   ·rintro (h|⟨_,h⟩)
    ·omega
    ·exact ih.1 h
   ·intro h;exact .inr ⟨rfl,ih.2 h⟩
def Nd.flat:Nd→List Nat→List (List Nat×ByteArray)
 | .nil=>fun _=>[]
 | .leaf q v=>fun p=>[(p++q,v)]
 | .ext q m=>fun p=>m.flat (p++q)
 | .br c v=>fun p=>(if v.size=0 then [] else [(p,v)])++(List.range 16).flatMap (fun i=>(c i).flat (p++[i]))
theorem flat_mem:∀(n:Nd) (p:List Nat) (x:List Nat×ByteArray),n.WF→(x∈n.flat p↔∃r,x.1=p++r∧n.look r=x.2∧x.2.size≠0)
 | .nil,p,x,_=>by
   simp only[Nd.flat,List.not_mem_nil,false_iff]
   rintro⟨r,_,h2,h3⟩
   rw[←h2] at h3
   exact h3 e0_size
 | .leaf q v,p,x,hn=>by
   simp only[Nd.flat,List.mem_singleton]
   constructor
   ·rintro rfl
    exact⟨q,rfl,by simp[Nd.look],hn.1⟩
   ·rintro⟨r,h1,h2,h3⟩
    rw[←h2] at h3
    obtain rfl:=look_leaf_eq h3
    simp only[Nd.look,if_true] at h2
    exact Prod.ext h1 h2.symm
 | .ext q m,p,x,hn=>by
   simp only[Nd.flat]
   rw[flat_mem m (p++q) x hn.2.2.2]
   constructor
   ·rintro⟨r,h1,h2,h3⟩
    exact⟨q++r,by rw[h1,List.append_assoc],by rw[look_ext_app];exact h2,h3⟩
   ·rintro⟨r,h1,h2,h3⟩
    have h4:=h3
    rw[←h2] at h4
    obtain⟨s,rfl⟩:=look_ext_pre h4
    rw[look_ext_app] at h2
    exact⟨s,by rw[h1,List.append_assoc],h2,h3⟩
 | .br c v,p,x,hn=>by
   obtain⟨n1,n2,_⟩:=hn
   simp only[Nd.flat,List.mem_append,List.mem_flatMap,List.mem_range]
   constructor
   ·rintro (h|⟨i,hi,h⟩)
    ·split at h
     ·simp at h
     ·rename_i hv
      obtain rfl:=List.mem_singleton.1 h
      exact⟨[],by simp,look_nil' c v,hv⟩
    ·obtain⟨r,h1,h2,h3⟩:=(flat_mem (c i) (p++[i]) x (n1 i)).1 h
     exact⟨i :: r,by rw[h1,List.append_assoc];rfl,by rw[look_cons];exact h2,h3⟩
   ·rintro⟨r,h1,h2,h3⟩
    cases r with
    | nil =>
      rw[look_nil'] at h2
      left
      rw[if_neg (by rw[h2];exact h3)]
      rw[List.append_nil] at h1
      exact List.mem_singleton.2 (Prod.ext h1 h2.symm)
    | cons i r =>
      rw[look_cons] at h2
      right
      refine⟨i,?_,(flat_mem (c i) (p++[i]) x (n1 i)).2 ⟨r,by rw[h1,List.append_assoc];rfl,h2,h3⟩⟩
      rcases Nat.lt_or_ge i 16 with h|h
      ·exact h
      ·rw[n2 i h] at h2
       rw[←h2] at h3
       exact absurd e0_size h3
theorem pair_flat {α β:Type}{R:β→β→Prop}{f:α→List β}:∀(L:List α),(∀a∈L,(f a).Pairwise R)→L.Pairwise (fun a b=>∀x∈f a,∀y∈f b,R x y)→(L.flatMap f).Pairwise R
 | [],_,_=>by simp
 | a :: L,h1,h2=>by
   rw[List.flatMap_cons,List.pairwise_append]
   obtain⟨h3,h4⟩:=List.pairwise_cons.1 h2
   refine⟨h1 a (List.mem_cons_self ..),pair_flat L (fun b hb=>h1 b (List.mem_cons_of_mem _ hb)) h4,fun x hx y hy=>?_⟩
   obtain⟨b,hb,hy⟩:=List.mem_flatMap.1 hy
   exact h3 b hb x hx y hy
theorem flat_sorted:∀(n:Nd) (p:List Nat),n.WF→(n.flat p).Pairwise (fun x y=>plt x.1 y.1)
 | .nil,p,_=>by simp[Nd.flat]
 | .leaf q v,p,_=>by simp[Nd.flat]
 | .ext q m,p,hn=>by simp only[Nd.flat];exact flat_sorted m _ hn.2.2.2
 | .br c v,p,hn=>by
   obtain⟨n1,n2,_⟩:=hn
   simp only[Nd.flat]
   rw[List.pairwise_append]
   refine⟨by split<;>simp,?_,?_⟩
   ·refine pair_flat _ (fun i _=>flat_sorted (c i) _ (n1 i)) ?_
    refine List.Pairwise.imp ?_ (List.pairwise_lt_range (n:=16))
    intro i j hij x hx y hy
    obtain⟨r,h1,_⟩:=(flat_mem (c i) _ x (n1 i)).1 hx
    obtain⟨s,h2,_⟩:=(flat_mem (c j) _ y (n1 j)).1 hy
    rw[h1,h2,List.append_assoc,List.append_assoc,plt_app]
    exact .inl hij
   ·intro x hx y hy
    obtain⟨i,_,hy⟩:=List.mem_flatMap.1 hy
    obtain⟨s,h2,_⟩:=(flat_mem (c i) _ y (n1 i)).1 hy
    split at hx
    ·simp at hx
    ·obtain rfl:=List.mem_singleton.1 hx
     have:plt (p++[]) (p++([i]++s)):=(plt_app _ _ _).2 trivial
     rw[List.append_nil,←List.append_assoc,←h2] at this
     exact this
theorem sorted_same {α:Type}{R:α→α→Prop}(hi:∀a,¬R a a)(ht:∀{a b c},R a b→R b c→R a c):∀(L M:List α),L.Pairwise R→M.Pairwise R→(∀x,x∈L↔x∈M)→L=M
 | [],[],_,_,_=>rfl
 | [],y :: M,_,_,h=>by have:=(h y).2 (List.mem_cons_self ..);simp at this
 | x :: L,[],_,_,h=>by have:=(h x).1 (List.mem_cons_self ..);simp at this
 | x :: L,y :: M,h1,h2,h=>by
   obtain⟨a1,a2⟩:=List.pairwise_cons.1 h1
   obtain⟨b1,b2⟩:=List.pairwise_cons.1 h2
   have hxy:x=y:=by
    rcases List.mem_cons.1 ((h x).1 (List.mem_cons_self ..)) with e|e
    ·exact e
    ·rcases List.mem_cons.1 ((h y).2 (List.mem_cons_self ..)) with e' | e'
     ·exact e'.symm
     ·exact absurd (ht (b1 x e) (a1 y e')) (hi y)
   subst hxy
   rw[sorted_same hi ht L M a2 b2 (fun z=>?_)]
   constructor
   ·intro hz
    rcases List.mem_cons.1 ((h z).1 (List.mem_cons_of_mem _ hz)) with rfl|e
    ·exact absurd (a1 z hz) (hi z)
    ·exact e
   ·intro hz
    rcases List.mem_cons.1 ((h z).2 (List.mem_cons_of_mem _ hz)) with rfl|e
    ·exact absurd (b1 z hz) (hi z)
    ·exact e
def sharedN:List (List Nat)→Nat
 | []=>0
 | x :: r=>r.foldl (fun n y=>min n (shared y x)) x.length
theorem foldMin_le {α:Type}(f:α→Nat):∀(r:List α) (n:Nat),r.foldl (fun n y=>min n (f y)) n≤n∧∀y∈r,r.foldl (fun n y=>min n (f y)) n≤f y
 | [],n=>⟨Nat.le_refl _,fun y hy=>by simp at hy⟩
 | y :: r,n=>by
   obtain⟨h1,h2⟩:=foldMin_le f r (min n (f y))
   refine⟨Nat.le_trans h1 (Nat.min_le_left _ _),fun z hz=>?_⟩
   rcases List.mem_cons.1 hz with rfl|hz
   ·exact Nat.le_trans h1 (Nat.min_le_right _ _)
   ·exact h2 z hz
theorem foldMin_ge {α:Type}(f:α→Nat)(m:Nat):∀(r:List α) (n:Nat),m≤n→(∀y∈r,m≤f y)→m≤r.foldl (fun n y=>min n (f y)) n
 | [],_,h,_=>h
 | y :: r,_,h,hr=>foldMin_ge f m r _ (Nat.le_min.2 ⟨h,hr y (List.mem_cons_self ..)⟩) (fun z hz=>hr z (List.mem_cons_of_mem _ hz))
theorem shared_app:∀(p a b:List Nat),shared (p++a) (p++b)=p.length+shared a b
 | [],a,b=>by simp
 | x :: p,a,b=>by
   have:=shared_app p a b
   simp[shared,this];omega
theorem sharedN_ge {p:List Nat}{L:List (List Nat)}(hn:L≠[])(h:∀x∈L,∃r,x=p++r):p.length≤sharedN L:=by
 cases L with
 | nil=>exact absurd rfl hn
 | cons x r =>
   obtain⟨a,ha⟩:=h x (List.mem_cons_self ..)
   refine foldMin_ge _ _ _ _ (by rw[ha];simp) (fun y hy=>?_)
   obtain⟨b,hb⟩:=h y (List.mem_cons_of_mem _ hy)
   rw[ha,hb,shared_app]
   omega
theorem sharedN_br {c:Nat→Nd}{v:ByteArray}(hw:(Nd.br c v).WF)(p:List Nat):sharedN (((Nd.br c v).flat p).map Prod.fst)=p.length:=by
 have hmem:∀x∈(Nd.br c v).flat p,∃r,x.1=p++r∧(Nd.br c v).look r=x.2∧x.2.size≠0:=fun x hx=>(flat_mem _ p x hw).1 hx
 have hall:∀x∈((Nd.br c v).flat p).map Prod.fst,∃r,x=p++r:=fun x hx=>by
  obtain⟨y,hy,rfl⟩:=List.mem_map.1 hx
  obtain⟨r,e,_⟩:=hmem y hy
  exact⟨r,e⟩
 have hkid:∀i,c i≠.nil→i<16→∃r,(p++(i :: r),(c i).look r)∈(Nd.br c v).flat p:=fun i hi h16=>by
  obtain⟨r,hr,_⟩:=look_some (c i) (hw.1 i) hi
  refine⟨r,(flat_mem _ p _ hw).2 ⟨i :: r,rfl,?_,hr⟩⟩
  simp[Nd.look]
 have h2:=hw.2.2
 cases hF:(Nd.br c v).flat p with
 | nil =>
   exfalso
   unfold nParts at h2
   by_cases hv:v.size=0
   ·rw[if_pos hv] at h2
    obtain⟨i,hi⟩:∃i,i∈full c:=by
     cases hfl:full c with
     | nil=>rw[hfl] at h2;simp at h2
     | cons i _=>exact⟨i,List.mem_cons_self ..⟩
    obtain⟨h16,hin⟩:=(full_mem c i).1 hi
    obtain⟨r,hr⟩:=hkid i hin h16
    rw[hF] at hr;simp at hr
   ·have:(p,v)∈(Nd.br c v).flat p:=(flat_mem _ p _ hw).2 ⟨[],by simp,by simp[Nd.look],hv⟩
    rw[hF] at this;simp at this
 | cons x0 rest =>
   have hge:p.length≤sharedN ((x0 :: rest).map Prod.fst):=sharedN_ge (by simp) (by rw[←hF];exact hall)
   refine Nat.le_antisymm ?_ hge
   have hle:=foldMin_le (fun y=>shared y x0.1) (rest.map Prod.fst) x0.1.length
   show (rest.map Prod.fst).foldl (fun n y=>min n (shared y x0.1)) x0.1.length≤p.length
   obtain⟨r0,e0', l0,s0⟩:=hmem x0 (by rw[hF];exact List.mem_cons_self ..)
   by_cases hv:v.size=0
   ·have hr0:r0≠[]:=fun e=>by
     rw[e] at l0
     have l0:v=x0.2:=by simpa[Nd.look] using l0
     rw[←l0] at s0
     exact s0 hv
    obtain⟨i,r,rfl⟩:∃i r,r0=i :: r:=by
     cases r0 with
     | nil=>exact absurd rfl hr0
     | cons i r=>exact⟨i,r,rfl⟩
    unfold nParts at h2
    rw[if_pos hv] at h2
    obtain⟨j,hj,hji⟩:∃j,j∈full c∧j≠i:=by
     have hnd:(full c).Nodup:=(List.nodup_range).filter _
     match hfl:full c,h2 with
     | [],h2=>simp at h2
     | [_],h2=>simp at h2
     | a :: b :: t,_ =>
       rw[hfl] at hnd
       by_cases ha:a=i
       ·refine⟨b,by simp,fun e=>?_⟩
        simp only[List.nodup_cons,List.mem_cons,not_or] at hnd
        exact hnd.1.1 (by rw[ha,e])
       ·exact⟨a,by simp,ha⟩
    obtain⟨h16,hjn⟩:=(full_mem c j).1 hj
    obtain⟨r', hr'⟩:=hkid j hjn h16
    rw[hF] at hr'
    have hin:(p++(j :: r'),(c j).look r')∈rest:=by
     rcases List.mem_cons.1 hr' with e|e
     ·exfalso
      have e1:=congrArg Prod.fst e
      rw[e0'] at e1
      have e2:=List.append_cancel_left e1
      injection e2 with e3 _
      exact hji e3
     ·exact e
    refine Nat.le_trans (hle.2 _ (List.mem_map.2 ⟨_,hin,rfl⟩)) ?_
    show shared (p++(j :: r')) x0.1≤_
    rw[e0', shared_app]
    simp[shared,hji]
   ·have hx0:x0.1=p:=by
     have:(Nd.br c v).flat p=(p,v) :: (List.range 16).flatMap (fun i=>(c i).flat (p++[i])):=by
      show (if v.size=0 then [] else [(p,v)])++_=_
      rw[if_neg hv];rfl
     rw[this] at hF
     injection hF with hF _
     rw[←hF]
    rw[hx0] at hle ⊢
    exact hle.1
theorem filter_br {c:Nat→Nd}{v:ByteArray}(hw:(Nd.br c v).WF)(p:List Nat){k:Nat}(hk:k<16):((Nd.br c v).flat p).filter (fun z=>decide (z.1[p.length]? = some k))=(c k).flat (p++[k]):=by
 have hi:∀i,((c i).flat (p++[i])).filter (fun z=>decide (z.1[p.length]? = some k))=if i=k then (c i).flat (p++[i]) else []:=fun i=>by
  have hm:∀z∈(c i).flat (p++[i]),z.1[p.length]? = some i:=fun z hz=>by
   obtain⟨r,e,_⟩:=(flat_mem (c i) (p++[i]) z (hw.1 i)).1 hz
   rw[e,List.append_assoc,List.getElem?_append_right (Nat.le_refl _)]
   simp
  split
  ·rename_i e
   rw[List.filter_eq_self]
   intro z hz
   rw[hm z hz,e];simp
  ·rename_i e
   rw[List.filter_eq_nil_iff]
   intro z hz
   rw[hm z hz];simp[e]
 show ((if v.size=0 then [] else [(p,v)])++(List.range 16).flatMap (fun i=>(c i).flat (p++[i]))).filter _=_
 rw[List.filter_append]
 have e1:(if v.size=0 then [] else [(p,v)]:List (List Nat×ByteArray)).filter (fun z=>decide (z.1[p.length]? = some k))=[]:=by
  split
  ·rfl
  ·simp
 rw[e1,List.nil_append,List.filter_flatMap]
 have e2:∀(L:List Nat),L.Nodup→L.flatMap (fun i=>((c i).flat (p++[i])).filter (fun z=>decide (z.1[p.length]? = some k)))=if k∈L then (c k).flat (p++[k]) else []:=by
  intro L
  induction L with
  | nil=>intro _;simp
  | cons i L ih =>
    intro hnd
    obtain⟨h1,h2⟩:=List.nodup_cons.1 hnd
    rw[List.flatMap_cons,ih h2,hi i]
    by_cases e:i=k
    ·subst e
     rw[if_pos rfl,if_neg h1,if_pos (List.mem_cons_self ..)];simp
    ·rw[if_neg e,List.nil_append]
     by_cases hkl:k∈L
     ·rw[if_pos hkl,if_pos (List.mem_cons_of_mem _ hkl)]
     ·rw[if_neg hkl,if_neg (fun h=>by rcases List.mem_cons.1 h with h|h;exact e h.symm;exact hkl h)]
 rw[e2 _ List.nodup_range,if_pos (List.mem_range.2 hk)]
theorem br_two {c:Nat→Nd}{v:ByteArray}(hw:(Nd.br c v).WF)(p:List Nat):2≤((Nd.br c v).flat p).length:=by
 have hsum:∀(L:List Nat),(L.filter (fun i=>!(c i).isNil)).length≤(L.flatMap (fun i=>(c i).flat (p++[i]))).length:=by
  intro L
  induction L with
  | nil=>simp
  | cons i L ih =>
    rw[List.filter_cons,List.flatMap_cons,List.length_append]
    cases hn:(c i).isNil with
    | true=>simp only[Bool.not_true,Bool.false_eq_true,if_false];omega
    | false =>
      have hne:c i≠.nil:=fun e=>by rw[(isNil_iff _).2 e] at hn;cases hn
      obtain⟨r,hr,_⟩:=look_some (c i) (hw.1 i) hne
      have hm:(p++[i]++r,(c i).look r)∈(c i).flat (p++[i]):=(flat_mem (c i) _ _ (hw.1 i)).2 ⟨r,rfl,rfl,hr⟩
      have:=List.length_pos_of_mem hm
      simp only[Bool.not_false,if_true,List.length_cons]
      omega
 have h2:=hw.2.2
 have h1:=hsum (List.range 16)
 show 2≤((if v.size=0 then [] else [(p,v)])++(List.range 16).flatMap (fun i=>(c i).flat (p++[i]))).length
 rw[List.length_append]
 unfold nParts full at h2
 split
 ·rename_i hv
  rw[if_pos hv] at h2
  simp only[List.length_nil];omega
 ·rename_i hv
  rw[if_neg hv] at h2
  simp only[List.length_cons,List.length_nil];omega
end Go.Proofs.YthdjmldddjljfaaGreatDoor
