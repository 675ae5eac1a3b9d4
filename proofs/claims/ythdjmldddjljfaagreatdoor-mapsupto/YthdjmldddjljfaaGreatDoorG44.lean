/-
  OUR OWN.
-/
import Derived.Test.YthdjmldddjljfaaGreatDoorG41
import Derived.Test.YthdjmldddjljfaaGreatDoorG35
import Derived.Test.YthdjmldddjljfaaGreatDoorG04
set_option maxHeartbeats 8000000
set_option maxRecDepth 20000
namespace Go.Proofs.YthdjmldddjljfaaGreatDoor
open Go.RowKit
def thOf (z:List Nat×ByteArray):V.Th:=⟨intsOf z.1,z.2,⟨#[]⟩,true⟩
theorem j_cmI:∀(p q:List Nat),V.cmI (intsOf p) (intsOf q)=shared p q
 | [],_=>rfl
 | _ :: _,[]=>rfl
 | a :: p,b :: q=>by
   have ih:=j_cmI p q
   simp only[intsOf,List.map_cons,V.cmI,shared] at ih ⊢
   by_cases e:a=b
   ·rw[if_pos (by rw[e]),if_pos e,ih]
   ·rw[if_neg (by omega),if_neg e]
theorem intsOf_length (p:List Nat):(intsOf p).length=p.length:=by simp[intsOf]
theorem intsOf_append (p q:List Nat):intsOf (p++q)=intsOf p++intsOf q:=by simp[intsOf]
theorem intsOf_take (p q:List Nat):(intsOf (p++q)).take p.length=intsOf p:=by
 rw[intsOf_append,←intsOf_length p,List.take_left]
theorem intsOf_drop (p q:List Nat):(intsOf (p++q)).drop p.length=intsOf q:=by
 rw[intsOf_append,←intsOf_length p,List.drop_left]
theorem intsOf_inj {p q:List Nat}(h:intsOf p=intsOf q):p=q:=by
 unfold intsOf at h
 exact (List.map_inj_right (fun a b hab=>by omega)).1 h
theorem j_refC (c:ByteArray):V.refC c=refB false c:=by
 unfold V.refC
 rw[j_textC]
 rfl
def madeL:Nd→List Nat→List V.Md
 | .nil=>fun _=>[]
 | .leaf q v=>fun p=>[⟨intsOf p,(Nd.leaf q v).code,decide (32≤(Nd.leaf q v).code.size)⟩]
 | .ext q m=>fun p=>⟨intsOf p,(Nd.ext q m).code,decide (32≤(Nd.ext q m).code.size)⟩ :: madeL m (p++q)
 | .br c v=>fun p=>⟨intsOf p,(Nd.br c v).code,decide (32≤(Nd.br c v).code.size)⟩ :: (List.range 16).flatMap (fun i=>madeL (c i) (p++[i]))
theorem made_list {c:Nat→Nd}{g:Nat→List V.Md}{f:Nat→List (List Nat×ByteArray)}:∀(L:List Nat),(∀i∈L,c i=.nil→g i=[])→(∀i∈L,c i≠.nil→(g i).length+2≤3 * (f i).length) →
  (L.flatMap g).length+2 * (L.filter (fun i=>!(c i).isNil)).length≤3 * (L.flatMap f).length
 | [],_,_=>by simp
 | i :: L,h0,h=>by
   have ih:=made_list (c:=c) (f:=f) (g:=g) L (fun j hj=>h0 j (List.mem_cons_of_mem _ hj)) (fun j hj=>h j (List.mem_cons_of_mem _ hj))
   have hi:=h i (List.mem_cons_self ..)
   rw[List.flatMap_cons,List.length_append,List.filter_cons,List.flatMap_cons,List.length_append]
   cases hn:(c i).isNil with
   | true =>
     have e:c i=.nil:=(isNil_iff _).1 hn
     have e0:=h0 i (List.mem_cons_self ..) e
     simp only[Bool.not_true,Bool.false_eq_true,if_false,e0,List.length_nil]
     omega
   | false =>
     have e:c i≠.nil:=fun e=>by rw[(isNil_iff _).2 e] at hn;cases hn
     have:=hi e
     simp only[Bool.not_false,if_true,List.length_cons]
     omega
theorem made_len:∀(n:Nd) (p:List Nat),n.WF→n≠.nil→(madeL n p).length+2≤3 * (n.flat p).length∧(n.isBr=true→(madeL n p).length+3≤3 * (n.flat p).length)
 | .nil,_,_,h=>absurd rfl h
 | .leaf q v,p,_,_=>⟨by simp[madeL,Nd.flat],fun h=>by simp[Nd.isBr] at h⟩
 | .ext q m,p,hw,_=>by
   have hm:m≠.nil:=fun e=>by
    have:=hw.2.2.1
    rw[e] at this
    simp[Nd.isBr] at this
   have ih:=(made_len m (p++q) hw.2.2.2 hm).2 hw.2.2.1
   refine⟨?_,fun h=>by simp[Nd.isBr] at h⟩
   show (madeL m (p++q)).length+1+2≤3 * (m.flat (p++q)).length
   omega
 | .br c v,p,hw,_=>by
   have hl:=made_list (c:=c) (g:=fun i=>madeL (c i) (p++[i])) (f:=fun i=>(c i).flat (p++[i])) (List.range 16) (fun i _ e=>by rw[e];rfl) (fun i _ hi=>(made_len (c i) (p++[i]) (hw.1 i) hi).1)
   have hp:=hw.2.2
   have key:(madeL (Nd.br c v) p).length+3≤3 * ((Nd.br c v).flat p).length:=by
    show ((List.range 16).flatMap (fun i=>madeL (c i) (p++[i]))).length+1+3≤3 * ((if v.size=0 then [] else [(p,v)])++(List.range 16).flatMap (fun i=>(c i).flat (p++[i]))).length
    rw[List.length_append]
    unfold nParts full at hp
    by_cases hv:v.size=0
    ·rw[if_pos hv] at hp ⊢
     simp only[List.length_nil]
     omega
    ·rw[if_neg hv] at hp ⊢
     simp only[List.length_cons,List.length_nil]
     omega
   exact⟨by omega,fun _=>key⟩
theorem range_mono {α:Type}(f:Nat→List α):∀{k n:Nat},k≤n→((List.range k).flatMap f).length≤((List.range n).flatMap f).length
 | k,0,h=>by obtain rfl:k=0:=by omega
             exact Nat.le_refl _
 | k,n+1,h=>by
   by_cases e:k=n+1
   ·rw[e];exact Nat.le_refl _
   ·refine Nat.le_trans (range_mono f (show k≤n by omega)) ?_
    rw[List.range_succ (n:=n),List.flatMap_append,List.length_append];omega
theorem flat_pre {n:Nd}{p:List Nat}(hw:n.WF):∀z∈n.flat p,∃r,z.1=p++r:=fun z hz=>by
 obtain⟨r,e,_⟩:=(flat_mem n p z hw).1 hz
 exact⟨r,e⟩
theorem flat_ne {n:Nd}(hw:n.WF)(hn:n≠.nil)(p:List Nat):n.flat p≠[]:=by
 obtain⟨r,hr,_⟩:=look_some n hw hn
 exact List.ne_nil_of_mem ((flat_mem n p (p++r,n.look r) hw).2 ⟨r,rfl,rfl,hr⟩)
def thU (u:List Nat→Bool)(z:List Nat×ByteArray):V.Th:=⟨intsOf z.1,z.2,⟨#[]⟩,u z.1⟩
theorem j_shThU (u:List Nat→Bool)(F:List (List Nat×ByteArray)):V.shTh (F.map (thU u))=sharedN (F.map Prod.fst):=by
 cases F with
 | nil=>rfl
 | cons x r =>
   simp only[List.map_cons,V.shTh,sharedN,thU,intsOf_length]
   have:∀(r:List (List Nat×ByteArray)) (n:Nat),(r.map (thU u)).foldl (fun n y=>min n (V.cmI y.path (intsOf x.1))) n=(r.map Prod.fst).foldl (fun n y=>min n (shared y x.1)) n:=by
    intro r
    induction r with
    | nil=>intro n;rfl
    | cons y r ih=>intro n;simp only[List.map_cons,List.foldl_cons,ih];rw[show ((thU u) y).path=intsOf y.1 from rfl,j_cmI]
   exact this r _
theorem j_inKU (u:List Nat→Bool)(i k:Nat)(z:List Nat×ByteArray):V.inK i k ((thU u) z)=decide (z.1[i]? = some k):=by
 unfold V.inK thU
 simp only[intsOf_length]
 by_cases h:i<z.1.length
 ·rw[decide_eq_true h,Bool.true_and,List.getElem?_eq_getElem h,decide_eq_decide]
  simp[intsOf,List.getD_eq_getElem?_getD,h]
  omega
 ·rw[decide_eq_false h,Bool.false_and,List.getElem?_eq_none (by omega)];simp
theorem j_partKU (u:List Nat→Bool)(F:List (List Nat×ByteArray))(i k:Nat):V.partK (F.map (thU u)) i k=(F.filter (fun z=>decide (z.1[i]? = some k))).map (thU u):=by
 unfold V.partK
 rw[List.filter_map]
 congr 1
 apply List.filter_congr
 intro z _
 exact j_inKU u i k z
theorem first_pathU (u:List Nat→Bool){F:List (List Nat×ByteArray)}{p:List Nat}(hne:F≠[])(h:∀z∈F,∃r,z.1=p++r):∃r,((F.map (thU u)).getD 0 V.th0).path=intsOf (p++r):=by
 cases F with
 | nil=>exact absurd rfl hne
 | cons z r =>
   obtain⟨s,hs⟩:=h z (List.mem_cons_self ..)
   exact⟨s,by simp[thU,hs]⟩
theorem noHash_mapU (u:List Nat→Bool)(F:List (List Nat×ByteArray)):V.NoHash (F.map (thU u)):=fun x hx=>by
 obtain⟨z,_,rfl⟩:=List.mem_map.1 hx;rfl
theorem short_mapU (u:List Nat→Bool){F:List (List Nat×ByteArray)}(h:∀z∈F,z.1.length≤128):V.Short (F.map (thU u)):=fun x hx=>by
 obtain⟨z,hz,rfl⟩:=List.mem_map.1 hx
 show (intsOf z.1).length≤128
 rw[intsOf_length];exact h z hz
theorem val_brU (u:List Nat→Bool){c:Nat→Nd}{v:ByteArray}(hw:(Nd.br c v).WF)(p:List Nat):V.valAt (((Nd.br c v).flat p).map (thU u)) (intsOf p)=v:=by
 unfold V.valAt
 by_cases hv:v.size=0
 ·have hany:(((Nd.br c v).flat p).map (thU u)).any (V.atF (intsOf p))=false:=by
   rw[List.any_eq_false]
   intro x hx
   obtain⟨z,hz,rfl⟩:=List.mem_map.1 hx
   obtain⟨r,e,l,s⟩:=(flat_mem _ p z hw).1 hz
   have hr:r≠[]:=fun e0=>by
    rw[e0] at l
    have l:v=z.2:=by simpa[Nd.look] using l
    rw[←l] at s;exact s hv
   simp only[V.atF,thU,Bool.and_eq_true,not_and]
   intro _ h
   have h1:=intsOf_inj (of_decide_eq_true h)
   rw[e] at h1
   have:=congrArg List.length h1
   simp at this
   exact hr this
  rw[hany,if_neg (by simp)]
  have:v=⟨#[]⟩:=ByteArray.ext (Array.eq_empty_of_size_eq_zero hv)
  rw[this];rfl
 ·have hF:(Nd.br c v).flat p=(p,v) :: (List.range 16).flatMap (fun i=>(c i).flat (p++[i])):=by
   show (if v.size=0 then [] else [(p,v)])++_=_
   rw[if_neg hv];rfl
  rw[hF,List.map_cons]
  have h0:V.atF (intsOf p) ((thU u) (p,v))=true:=by simp[V.atF,thU];rfl
  rw[List.any_cons,h0,Bool.true_or,if_pos rfl,List.findIdx_cons,h0]
  rfl
theorem node_tleafU (u:List Nat→Bool)(q:List Nat)(v:ByteArray)(p:List Nat)(hcb:CB (.leaf q v))(hz:(p++q).length≤128)(b:Nat)(lv:Value)(W:World)(hr:V.ThRow b W lv [thU u (p++q,v)]) :
  Calls Tryz.prog 56 #[lv,.int .i64 (p.length:Int)] W (V.NodePost (Nd.leaf q v).code (madeL (.leaf q v) p) W):=by
 obtain⟨x,hx⟩:∃x,(thU u) (p++q,v)=x:=⟨_,rfl⟩
 have h1:x.path=intsOf (p++q):=by rw[←hx];rfl
 have h2:x.value=v:=by rw[←hx];rfl
 have h3:x.hash=⟨#[]⟩:=by rw[←hx];rfl
 rw[hx] at hr
 have hd:x.path.drop p.length=intsOf q:=by rw[h1];exact intsOf_drop p q
 have ht:x.path.take p.length=intsOf p:=by rw[h1];exact intsOf_take p q
 have hl:x.path.length=(p++q).length:=by rw[h1,intsOf_length]
 have hcode:V.listC [V.textC (codeOf true (intsOf q)),V.textC v]=(Nd.leaf q v).code:=by rw[j_listC,j_textC,j_textC];rfl
 have hc6:=code_size hcb
 have hq:isP (intsOf q)=true:=isP_path (by simp at hz;omega) hcb.wf.2
 have h:=V.node_leaf b lv x p.length W hr (by omega) h3 (by rw[hl];simp) (by rw[hd];exact hq) (by rw[hd,h2,hcode];omega)
 unfold V.leafMd at h
 rw[hd,h2,hcode,ht] at h
 exact h
theorem node_treeU (u:List Nat→Bool):∀(n:Nd) (p:List Nat),CB n→n≠.nil→(∀z∈n.flat p,z.1.length≤128)→(n.flat p).length≤100000000→∀(b:Nat) (lv:Value) (W:World),V.ThRow b W lv ((n.flat p).map (thU u)) →
  Calls Tryz.prog 56 #[lv,.int .i64 (p.length:Int)] W (V.NodePost n.code (madeL n p) W)
 | .nil,_,_,h,_,_,_,_,_,_=>absurd rfl h
 | .leaf q v,p,hcb,_,hs,_,b,lv,W,hr=>node_tleafU u q v p hcb (hs (p++q,v) (List.mem_singleton.2 rfl)) b lv W hr
 | .ext q m,p,hcb,_,hs,hl,b,lv,W,hr=>by
   have ih:=node_treeU u m (p++q) hcb.ext (fun e=>by have:=hcb.wf.2.2.1;rw[e] at this;simp[Nd.isBr] at this) hs hl
   obtain⟨c,v,rfl⟩:∃c v,m=.br c v:=by
    have hw:=hcb.wf
    cases m with
    | br c v=>exact⟨c,v,rfl⟩
    | nil=>exact absurd hw (by simp[Nd.WF,Nd.isBr])
    | leaf _ _=>exact absurd hw (by simp[Nd.WF,Nd.isBr])
    | ext _ _=>exact absurd hw (by simp[Nd.WF,Nd.isBr])
   have hcm:=hcb.ext
   have hwm:=hcm.wf
   have hne:=flat_ne hwm (by simp) (p++q)
   obtain⟨r,hpa⟩:=first_pathU u hne (flat_pre hwm)
   have hcc:=code_size hcm
   have hq0:0 < q.length:=List.length_pos_iff.2 hcb.wf.1
   have hql:q.length≤128:=hcb.len.1
   have hmd:=(made_len (.br c v) (p++q) hwm (by simp)).1
   have e1:(intsOf (p++q++r)).take (p++q).length=intsOf (p++q):=intsOf_take _ _
   have e2:(intsOf (p++q)).drop p.length=intsOf q:=intsOf_drop _ _
   have e3:(intsOf (p++q++r)).take p.length=intsOf p:=by rw[List.append_assoc];exact intsOf_take _ _
   have hcode:V.listC [V.textC (codeOf false (intsOf q)),V.refC (Nd.br c v).code]=(Nd.ext q (.br c v)).code:=by rw[j_listC,j_textC,j_refC];rfl
   have hex:=code_size hcb
   have h:=V.node_ext b lv (((Nd.br c v).flat (p++q)).map (thU u)) p.length (p++q).length (Nd.br c v).code (madeL (.br c v) (p++q)) W hr (short_mapU u hs) (by rw[List.length_map];exact br_two hwm _) (by rw[List.length_map];exact Nat.le_trans hl (by decide)) (by rw[j_shThU u];exact sharedN_br hwm _) (by simp;omega)
    (by rw[hpa,e1,e2];exact isP_path hql hcb.wf.2.1) (fun W' hW=>ih b lv W' (hr.keep hW)) (fun h32=>code_can hwm (by simp) h32) (by omega) (by rw[j_textC,←hash_textC];decide) (by change ((Nd.br c v).flat (p++q)).length≤_ at hl;omega) (by rw[hpa,e1,e2,hcode];omega)
   rw[hpa,e1,e2,e3,hcode] at h
   exact h
 | .br c v,p,hcb,_,hs,hl,b,lv,W,hr=>by
   have hw:=hcb.wf
   have hne:=flat_ne hw (by simp) p
   obtain⟨r,hpa⟩:=first_pathU u hne (flat_pre hw)
   have e1:(intsOf (p++r)).take p.length=intsOf p:=intsOf_take _ _
   have hpk:∀k,k<16→V.partK (((Nd.br c v).flat p).map (thU u)) p.length k=((c k).flat (p++[k])).map (thU u):=fun k hk=>by rw[j_partKU u,filter_br hw p hk]
   have hnil:∀k,k<16→(V.partK (((Nd.br c v).flat p).map (thU u)) p.length k).isEmpty=(c k).isNil:=fun k hk=>by
    rw[hpk k hk]
    cases hn:(c k).isNil with
    | true=>rw[(isNil_iff _).1 hn];rfl
    | false =>
      have:=flat_ne (hw.1 k) (fun e=>by rw[(isNil_iff _).2 e] at hn;cases hn) (p++[k])
      rw[List.isEmpty_eq_false_iff]
      exact fun e=>this (List.map_eq_nil_iff.1 e)
   have hsub:∀k,k<16→∀z∈(c k).flat (p++[k]),z∈(Nd.br c v).flat p:=fun k hk z hz=>by
    rw[←filter_br hw p hk] at hz;exact (List.mem_filter.1 hz).1
   have hlen:∀k,k<16→((c k).flat (p++[k])).length≤((Nd.br c v).flat p).length:=fun k hk=>by
    rw[←filter_br hw p hk];exact List.length_filter_le _ _
   have hbT:∀k∈List.range 16,V.brT (((Nd.br c v).flat p).map (thU u)) p.length (fun k=>(c k).code) k=refB (c k).isNil (c k).code:=fun k hk=>by
    unfold V.brT
    rw[hnil k (List.mem_range.1 hk)]
    cases hn:(c k).isNil with
    | true=>rw[if_pos rfl,j_textC];rfl
    | false=>rw[if_neg (by simp),j_refC]
   have hbM:∀k∈List.range 16,V.brM (((Nd.br c v).flat p).map (thU u)) p.length (fun k=>madeL (c k) (p++[k])) k=madeL (c k) (p++[k]):=fun k hk=>by
    unfold V.brM
    rw[hnil k (List.mem_range.1 hk)]
    cases hn:(c k).isNil with
    | true=>rw[(isNil_iff _).1 hn];rfl
    | false=>rw[if_neg (by simp)]
   have hMe:(List.range 16).flatMap (V.brM (((Nd.br c v).flat p).map (thU u)) p.length (fun k=>madeL (c k) (p++[k])))=(List.range 16).flatMap (fun k=>madeL (c k) (p++[k])):=by
    rw[List.flatMap_def,List.flatMap_def,List.map_congr_left hbM]
   have hcode:V.brCode (((Nd.br c v).flat p).map (thU u)) p.length (fun k=>(c k).code) (intsOf p)=(Nd.br c v).code:=by
    unfold V.brCode
    rw[val_brU u hw,j_listC,j_textC,List.map_congr_left hbT];rfl
   have hmd:=(made_len (.br c v) p hw (by simp)).1
   have hex:=code_size hcb
   have hmt:((List.range 16).flatMap (fun k=>madeL (c k) (p++[k]))).length≤1000000000:=by
    change ((List.range 16).flatMap (fun k=>madeL (c k) (p++[k]))).length+1+2≤_ at hmd
    omega
   have h:=V.node_br b lv (((Nd.br c v).flat p).map (thU u)) p.length (fun k=>(c k).code) (fun k=>madeL (c k) (p++[k])) W hr (short_mapU u hs) (noHash_mapU u _) (by rw[List.length_map];exact br_two hw _) (by rw[List.length_map];exact Nat.le_trans hl (by decide)) (by rw[j_shThU u];exact sharedN_br hw _)
    (fun k hk hem b' pv W' _ hr' => by
      rw[hpk k hk] at hr'
      rw[hnil k hk] at hem
      have:=node_treeU u (c k) (p++[k]) (hcb.kid k) (fun e=>by rw[(isNil_iff _).2 e] at hem;cases hem) (fun z hz=>hs z (hsub k hk z hz)) (Nat.le_trans (hlen k hk) hl) b' pv W' hr'
      have e:(((p++[k]).length:Nat):Int)=(p.length:Int)+1:=by simp
      rwa [e] at this)
    (fun k hk hem=>by
      rw[hnil k hk] at hem
      have hkn:c k≠.nil:=fun e=>by rw[(isNil_iff _).2 e] at hem;cases hem
      exact⟨fun h32=>code_can (hw.1 k) hkn h32,by have:=code_size (hcb.kid k);omega,by rw[j_textC,←hash_textC];decide⟩)
    (fun k hk=>by
      refine Nat.le_trans (range_mono _ hk) ?_
      rw[hMe];exact hmt)
    (fun k hk=>by
      by_cases hkn:c k=.nil
      ·simp only[hkn];exact Nat.zero_le _
      ·have h1:=(made_len (c k) (p++[k]) (hw.1 k) hkn).1
       have h2:=hlen k hk
       omega)
    (by rw[hpa,e1,hcode];omega)
   rw[hpa,e1,hcode,hMe] at h
   exact h
end Go.Proofs.YthdjmldddjljfaaGreatDoor
namespace Go.Proofs.YthdjmldddjljfaaGreatDoor
theorem j_less:∀(p q:List Nat),V.lessI (intsOf p) (intsOf q)=true↔plt p q
 | [],[]=>by simp[intsOf,V.lessI,plt]
 | [],_ :: _=>by simp[intsOf,V.lessI,plt]
 | _ :: _,[]=>by simp[intsOf,V.lessI,plt]
 | a :: p,b :: q=>by
   have ih:=j_less p q
   simp only[intsOf,List.map_cons,V.lessI,plt] at ih ⊢
   by_cases e:a=b
   ·rw[if_pos (by rw[e]),ih,e];simp
   ·rw[if_neg (by omega),decide_eq_true_eq]
    constructor
    ·intro h;exact .inl (by omega)
    ·rintro (h|⟨h,_⟩)
     ·omega
     ·exact absurd h e
def insF:List (List Nat×ByteArray)→List Nat×ByteArray→List (List Nat×ByteArray)
 | [],z=>[z]
 | x :: F,z=>if V.lessI (intsOf x.1) (intsOf z.1)=true then x :: insF F z else z :: x :: F
theorem insF_mem:∀(F:List (List Nat×ByteArray)) (z x:List Nat×ByteArray),x∈insF F z↔x=z∨x∈F
 | [],z,x=>by simp[insF]
 | y :: F,z,x=>by
   unfold insF
   split
   ·rw[List.mem_cons,insF_mem F z x,List.mem_cons]
    constructor
    ·rintro (h|h|h)
     ·exact .inr (.inl h)
     ·exact .inl h
     ·exact .inr (.inr h)
    ·rintro (h|h|h)
     ·exact .inr (.inl h)
     ·exact .inl h
     ·exact .inr (.inr h)
   ·simp[List.mem_cons]
theorem insF_sorted:∀(F:List (List Nat×ByteArray)) (z:List Nat×ByteArray),F.Pairwise (fun x y=>plt x.1 y.1)→(∀x∈F,x.1≠z.1)→(insF F z).Pairwise (fun x y=>plt x.1 y.1)
 | [],z,_,_=>by simp[insF]
 | y :: F,z,hs,hne=>by
   obtain⟨h1,h2⟩:=List.pairwise_cons.1 hs
   unfold insF
   split
   ·rename_i h
    refine List.pairwise_cons.2 ⟨fun x hx=>?_,insF_sorted F z h2 (fun x hx=>hne x (List.mem_cons_of_mem _ hx))⟩
    rcases (insF_mem F z x).1 hx with rfl|hx
    ·exact (j_less _ _).1 h
    ·exact h1 x hx
   ·rename_i h
    have hzy:plt z.1 y.1:=by
     rcases plt_total z.1 y.1 with h3|h3|h3
     ·exact h3
     ·exact absurd h3.symm (hne y (List.mem_cons_self ..))
     ·exact absurd ((j_less _ _).2 h3) h
    refine List.pairwise_cons.2 ⟨fun x hx=>?_,hs⟩
    rcases List.mem_cons.1 hx with rfl|hx
    ·exact hzy
    ·exact plt_trans hzy (h1 x hx)
theorem flat_eq {n:Nd}(hw:n.WF){F:List (List Nat×ByteArray)}(hs:F.Pairwise (fun x y=>plt x.1 y.1))(hm:∀x,x∈F↔(n.look x.1=x.2∧x.2.size≠0)):F=n.flat []:=by
 refine sorted_same (R:=fun x y:List Nat×ByteArray=>plt x.1 y.1) (fun a=>plt_irrefl _) (fun h1 h2=>plt_trans h1 h2) F (n.flat []) hs (flat_sorted n [] hw) (fun x=>?_)
 rw[hm x,flat_mem n [] x hw]
 constructor
 ·rintro⟨h1,h2⟩;exact⟨x.1,rfl,h1,h2⟩
 ·rintro⟨r,h0,h1,h2⟩
  rw[List.nil_append] at h0
  rw[h0];exact⟨h1,h2⟩
end Go.Proofs.YthdjmldddjljfaaGreatDoor
namespace Go.Proofs.YthdjmldddjljfaaGreatDoor
open Go.RowKit
attribute [local go_sem ↓] Go.wp_at_zero Go.wp_at_succ
theorem j_nibs:∀(l:List UInt8),V.nibs l=intsOf ((nibs l).map Int.toNat)
 | []=>rfl
 | b :: r=>by
   have ih:=j_nibs r
   simp only[V.nibs,nibs,intsOf,List.map_cons] at ih ⊢
   have h1:(((b.toNat:Int) / 16).toNat:Int)=(b.toNat:Int) / 16:=by omega
   have h2:(((b.toNat:Int) % 16).toNat:Int)=(b.toNat:Int) % 16:=by omega
   rw[ih,h1,h2]
theorem j_path (k:ByteArray):V.nibs k.data.toList=intsOf (pathN k):=j_nibs _
theorem path_len (k:ByteArray):(intsOf (pathN k)).length=2 * k.size:=by
 rw[←j_path,V.nibs_length];rfl
theorem halves_path (k:ByteArray)(W:World)(hk:k.size≤1000):Calls Tryz.prog 21 #[.string k] W fun e w' => ∃pa pc,e=.returned (.slice pa (intsOf (pathN k)).length pc)∧V.PSl w' pa pc (intsOf (pathN k))∧Below W.heap.size W w' := by
 refine (V.halves_any k W (by omega)).mono ?_
 rintro e w' ⟨v,rfl,ho,hb⟩
 rw[j_path,←path_len] at ho
 obtain⟨pa,pc,rfl,h⟩:=V.PSl.of_own ho
 exact⟨pa,pc,rfl,h,hb⟩
theorem ThRow.keepX {base:Nat}{w w' : World}{v:Value}{L:List V.Th}(h:V.ThRow base w v L)(hk:∀g,base≤g→g<w.heap.size→w'.heap[g]? = w.heap[g]?)(hi:V.KpI w w'):V.ThRow base w' v L:=by
 obtain⟨css,h1,h2⟩:=h
 exact⟨css,own_far h1 (fun g hg hl=>hk g (own_ge h1 (Nat.le_refl _) g hg) hl),h2.mono (fun _ _ h=>h.keep hi)⟩
end Go.Proofs.YthdjmldddjljfaaGreatDoor
namespace Go.Proofs.YthdjmldddjljfaaGreatDoor
open Go.RowKit
def Plain (L:List V.Th)(n:Nd):Prop:=∃u,L=(n.flat []).map (thU u)
theorem j_insLU (u:List Nat→Bool):∀(F:List (List Nat×ByteArray)) (z:List Nat×ByteArray),V.insL (F.map (thU u)) (intsOf z.1) z.2=(insF F z).map thOf
 | [],z=>rfl
 | x :: F,z=>by
   have ih:=j_insLU u F z
   unfold V.insL at ih ⊢
   rw[List.map_cons,V.insK]
   by_cases h:V.lessI (intsOf x.1) (intsOf z.1)=true
   ·rw[if_pos (show V.lessI (thU u x).path (intsOf z.1)=true from h)]
    unfold insF
    rw[if_pos h,List.map_cons,←ih]
    rfl
   ·rw[if_neg (show ¬V.lessI (thU u x).path (intsOf z.1)=true from h)]
    unfold insF
    rw[if_neg h]
    simp only[List.take_zero,List.drop_zero,List.nil_append,List.map_append,List.map_cons,List.map_nil,List.map_map]
    have:(V.mark1 ∘ thU u)=thOf:=rfl
    rw[this];rfl
theorem atF_thU (u:List Nat→Bool)(q:List Nat)(z:List Nat×ByteArray):V.atF (intsOf q) (thU u z)=decide (z.1=q):=by
 unfold V.atF thU
 by_cases h:z.1=q
 ·rw[h,decide_eq_true (rfl:q=q),decide_eq_true (rfl:intsOf q=intsOf q),Bool.and_true]
  exact decide_eq_true rfl
 ·rw[decide_eq_false h,decide_eq_false (p:=intsOf z.1=intsOf q) (fun e=>h (intsOf_inj e)),Bool.and_false]
theorem flat_mem0 {n:Nd}(hw:n.WF)(x:List Nat×ByteArray):x∈n.flat []↔(n.look x.1=x.2∧x.2.size≠0):=by
 rw[flat_mem n [] x hw]
 constructor
 ·rintro⟨r,h0,h1,h2⟩
  rw[List.nil_append] at h0
  rw[h0];exact⟨h1,h2⟩
 ·rintro⟨h1,h2⟩;exact⟨x.1,rfl,h1,h2⟩
theorem Plain.put {L:List V.Th}{n:Nd}(h:Plain L n)(hO:TOk n){q:List Nat}(hq:∀x∈q,x<16)(hl:q.length≤128){v:ByteArray}(hv:v.size≤400):Plain (V.putL L (intsOf q) v) (n.set q v):=by
 obtain⟨u,rfl⟩:=h
 have hw:=hO.wf
 have hw' := (hO.set hq hl hv).wf
 have hso:=flat_sorted n [] hw
 have hm:=flat_mem0 hw
 by_cases hany:∃z∈n.flat [],z.1=q
 ·obtain⟨z,hz,hzq⟩:=hany
  obtain⟨A,B,hAB⟩:=List.append_of_mem hz
  rw[hAB] at hso
  have hA:∀a∈A,a.1≠q:=fun a ha e=>by
   have h1:=(List.pairwise_append.1 hso).2.2 a ha z (List.mem_cons_self ..)
   rw[e,hzq] at h1
   exact plt_irrefl _ h1
  have hB:∀b∈B,b.1≠q:=fun b hb e=>by
   have h1:=(List.pairwise_cons.1 (List.pairwise_append.1 hso).2.1).1 b hb
   rw[e,hzq] at h1
   exact plt_irrefl _ h1
  have hidx:((n.flat []).map (thU u)).findIdx (V.atF (intsOf q))=A.length:=by
   rw[hAB,List.map_append,List.map_cons,List.findIdx_append,List.findIdx_eq_length.2,if_neg (by simp)]
   ·rw[List.findIdx_cons,atF_thU,decide_eq_true hzq]
    simp
   ·intro x hx
    obtain⟨a,ha,rfl⟩:=List.mem_map.1 hx
    rw[atF_thU,decide_eq_false (hA a ha)]
  have han:((n.flat []).map (thU u)).any (V.atF (intsOf q))=true:=by
   rw[List.any_eq_true]
   exact⟨thU u z,List.mem_map.2 ⟨z,hz,rfl⟩,by rw[atF_thU,decide_eq_true hzq]⟩
  have htk:((n.flat []).map (thU u)).take A.length=A.map (thU u):=by
   rw[hAB,List.map_append]
   have e:A.length=(A.map (thU u)).length:=by simp
   rw[e,List.take_left]
  have hdr:((n.flat []).map (thU u)).drop (A.length+1)=B.map (thU u):=by
   rw[hAB,List.map_append,List.map_cons]
   have e:A.length+1=(A.map (thU u)++[thU u z]).length:=by simp
   have e2:A.map (thU u)++thU u z :: B.map (thU u)=(A.map (thU u)++[thU u z])++B.map (thU u):=by simp
   rw[e2,e,List.drop_left]
  have hmem:∀x,x∈n.flat []↔x∈A∨x=z∨x∈B:=fun x=>by rw[hAB];simp
  unfold V.putL
  rw[if_pos han,hidx,htk,hdr]
  by_cases hv0:v.size=0
  ·rw[if_pos hv0]
   refine⟨u,?_⟩
   have hF:A++B=(n.set q v).flat []:=by
    refine flat_eq hw' ?_ fun x=>?_
    ·refine hso.sublist ?_
     exact List.Sublist.append (List.Sublist.refl _) (List.sublist_cons_self _ _)
    ·rw[look_set hw hq,List.mem_append]
     constructor
     ·intro hx
      have hx1:x∈n.flat []:=(hmem x).2 (hx.imp id .inr)
      have hxq:¬q=x.1:=fun e=>by
       rcases hx with hx|hx
       ·exact hA x hx e.symm
       ·exact hB x hx e.symm
      rw[if_neg hxq]
      exact (hm x).1 hx1
     ·rintro⟨h1,h2⟩
      by_cases e:q=x.1
      ·rw[if_pos e] at h1
       rw[←h1] at h2
       exact absurd hv0 h2
      ·rw[if_neg e] at h1
       rcases (hmem x).1 ((hm x).2 ⟨h1,h2⟩) with hx|hx|hx
       ·exact .inl hx
       ·rw[hx,hzq] at e;exact absurd rfl e
       ·exact .inr hx
   rw[←hF,List.map_append,List.append_nil]
  ·rw[if_neg hv0]
   refine⟨fun p=>if p=q then false else u p,?_⟩
   have hF:A++(q,v) :: B=(n.set q v).flat []:=by
    refine flat_eq hw' ?_ fun x=>?_
    ·obtain⟨p1,p2,p3⟩:=List.pairwise_append.1 hso
     obtain⟨p4,p5⟩:=List.pairwise_cons.1 p2
     refine List.pairwise_append.2 ⟨p1,List.pairwise_cons.2 ⟨fun b hb=>?_,p5⟩,fun a ha b hb=>?_⟩
     ·have:=p4 b hb
      rw[hzq] at this
      exact this
     ·rcases List.mem_cons.1 hb with rfl|hb
      ·have:=p3 a ha z (List.mem_cons_self ..)
       rw[hzq] at this
       exact this
      ·exact p3 a ha b (List.mem_cons_of_mem _ hb)
    ·rw[look_set hw hq,List.mem_append,List.mem_cons]
     constructor
     ·intro hx
      by_cases e:q=x.1
      ·rw[if_pos e]
       rcases hx with hx|hx|hx
       ·exact absurd e.symm (hA x hx)
       ·rw[hx];exact⟨rfl,hv0⟩
       ·exact absurd e.symm (hB x hx)
      ·rw[if_neg e]
       refine (hm x).1 ((hmem x).2 ?_)
       rcases hx with hx|hx|hx
       ·exact .inl hx
       ·rw[hx] at e;exact absurd rfl e
       ·exact .inr (.inr hx)
     ·rintro⟨h1,h2⟩
      by_cases e:q=x.1
      ·rw[if_pos e] at h1
       exact .inr (.inl (Prod.ext e.symm h1.symm))
      ·rw[if_neg e] at h1
       rcases (hmem x).1 ((hm x).2 ⟨h1,h2⟩) with hx|hx|hx
       ·exact .inl hx
       ·rw[hx,hzq] at e;exact absurd rfl e
       ·exact .inr (.inr hx)
   rw[←hF,List.map_append,List.map_cons]
   have eA:A.map (thU u)=A.map (thU fun p=>if p=q then false else u p):=List.map_congr_left fun a ha=>by
    unfold thU
    dsimp only
    rw[if_neg (hA a ha)]
   have eB:B.map (thU u)=B.map (thU fun p=>if p=q then false else u p):=List.map_congr_left fun b hb=>by
    unfold thU
    dsimp only
    rw[if_neg (hB b hb)]
   have eq0:(⟨intsOf q,v,⟨#[]⟩,false⟩:V.Th)=thU (fun p=>if p=q then false else u p) (q,v):=by
    unfold thU
    dsimp only
    rw[if_pos rfl]
   rw[eA,eB,eq0,List.append_assoc]
   rfl
 ·have han:¬((n.flat []).map (thU u)).any (V.atF (intsOf q))=true:=fun e=>by
   rw[List.any_eq_true] at e
   obtain⟨x,hx,h1⟩:=e
   obtain⟨z,hz,rfl⟩:=List.mem_map.1 hx
   rw[atF_thU] at h1
   exact hany ⟨z,hz,of_decide_eq_true h1⟩
  have hlk:(n.look q).size=0:=by
   by_cases e:(n.look q).size=0
   ·exact e
   ·exact absurd ⟨(q,n.look q),(hm (q,n.look q)).2 ⟨rfl,e⟩,rfl⟩ hany
  unfold V.putL
  rw[if_neg han]
  by_cases hv0:v.size=0
  ·rw[if_pos hv0]
   have hset:n.set q v=n:=by
    unfold Nd.set Nd.drop
    rw[if_pos hv0,if_pos hlk]
   rw[hset]
   exact⟨u,rfl⟩
  ·rw[if_neg hv0]
   refine⟨fun _=>true,?_⟩
   have hF:insF (n.flat []) (q,v)=(n.set q v).flat []:=by
    refine flat_eq hw' (insF_sorted _ _ hso (fun x hx e=>hany ⟨x,hx,e⟩)) fun x=>?_
    rw[insF_mem,look_set hw hq]
    constructor
    ·rintro (rfl|hx)
     ·rw[if_pos rfl];exact⟨rfl,hv0⟩
     ·rw[if_neg (fun e=>hany ⟨x,hx,e.symm⟩)]
      exact (hm x).1 hx
    ·rintro⟨h1,h2⟩
     by_cases e:q=x.1
     ·rw[if_pos e] at h1
      exact .inl (Prod.ext e.symm h1.symm)
     ·rw[if_neg e] at h1
      exact .inr ((hm x).2 ⟨h1,h2⟩)
   rw[←hF]
   exact j_insLU u (n.flat []) (q,v)
end Go.Proofs.YthdjmldddjljfaaGreatDoor
namespace Go.Proofs.YthdjmldddjljfaaGreatDoor
open Go.RowKit
attribute [local go_sem ↓] Go.wp_at_zero Go.wp_at_succ
theorem look_Len:∀(n:Nd) (L:Nat) (p:List Nat),n.Len L→(n.look p).size≠0→p.length≤L
 | .nil,_,_,_,h=>absurd rfl h
 | .leaf q v,L,p,hl,h=>by
   unfold Nd.look at h
   split at h
   ·rename_i e
    rw[←e];exact hl
   ·exact absurd rfl h
 | .ext q m,L,p,hl,h=>by
   have hx:=hl
   unfold Nd.Len at hx
   obtain⟨r,rfl⟩:=look_ext_pre h
   rw[look_ext_app] at h
   have:=look_Len m (L - q.length) r hx.2 h
   rw[List.length_append]
   have:=hx.1
   omega
 | .br c v,L,p,hl,h=>by
   have hx:=hl
   unfold Nd.Len at hx
   cases p with
   | nil=>exact Nat.zero_le _
   | cons i r =>
     rw[look_cons] at h
     have:=look_Len (c i) (L - 1) r (hx.2 i) h
     simp only[List.length_cons]
     have:=hx.1
     omega
theorem flat_short {n:Nd}(hO:TOk n):∀z∈n.flat [],z.1.length≤128:=fun z hz=>by
 obtain⟨h1,h2⟩:=(flat_mem0 hO.wf z).1 hz
 exact look_Len n 128 z.1 hO.len (by rw[h1];exact h2)
theorem putL_len (L:List V.Th)(P:List Int)(v:ByteArray):(V.putL L P v).length≤L.length+1:=by
 unfold V.putL
 split
 ·rename_i h
  have hi:L.findIdx (V.atF P)<L.length:=List.findIdx_lt_length.2 (by simpa using h)
  rw[List.length_append,List.length_append,List.length_take,List.length_drop]
  split
  ·show _+0+_≤_;omega
  ·show _+1+_≤_;omega
 ·split
  ·omega
  ·unfold V.insL
   rw[List.length_map,List.length_append,List.length_append,List.length_take,List.length_drop]
   have:=V.insK_le L P
   show _+1+_≤_
   omega
theorem set_len {n:Nd}(hO:TOk n){q:List Nat}(hq:∀x∈q,x<16)(hl:q.length≤128){v:ByteArray}(hv:v.size≤400):((n.set q v).flat []).length≤(n.flat []).length+1:=by
 have hp:Plain ((n.flat []).map (thU fun _=>true)) n:=⟨_,rfl⟩
 obtain⟨u,h⟩:=hp.put hO hq hl hv
 have h1:=putL_len ((n.flat []).map (thU fun _=>true)) (intsOf q) v
 rw[h,List.length_map,List.length_map] at h1
 exact h1
structure RT (w:World)(T:Nat)(S lv:Value)(n:Nd):Prop where
 box:w.heap[T]? = some (.cells #[S,lv] 77 (0,0))
 list:∃L,Plain L n∧V.RowL (T+1) w lv L
theorem RT.keep {w w' : World}{T:Nat}{S lv:Value}{n:Nd}(h:RT w T S lv n)(hb:Below w.heap.size w w'):RT w' T S lv n:=by
 obtain⟨L,h1,h2⟩:=h.list
 exact⟨(hb.block T (aGe.1 h.box).1).trans h.box,L,h1,h2.keep hb⟩
theorem rtRoot_any (T:Nat)(S lv:Value)(n:Nd)(w:World)(ht:RT w T S lv n)(hO:TOk n)(hl:(n.flat []).length≤100000000) :
  Calls Tryz.prog 22 #[.pointer (some ⟨T,0,none⟩)] w fun e w' => e=.returned (.string (rootOf n))∧Below w.heap.size w w' := by
 have hcb:=hO.cb
 have hs:=flat_short hO
 have c1:w.cell? ⟨T,1,none⟩=some lv:=cell_of_row _ _ 1 _ _ (0,0) ht.box
 by_cases hn:n=.nil
 ·subst hn
  obtain rfl:lv=.slice none 0 0:=by
   obtain⟨L,⟨u,rfl⟩,h⟩:=ht.list
   rcases h with⟨_,h⟩|⟨h,_⟩
   ·exact h
   ·exact absurd rfl h
  have HN:=hide (fun W=>V.rNone_any W)
  have HE:Hid (V.root0=rootOf .nil):=by show _=_;kernel_rfl
  rw[HE.out] at HN
  clear ht hs hcb hO
  go_enter Tryz.func22,Tryz.ntmps22
  go_wp2_with fail
  refine (HN.out _).mono ?_
  rintro e w1 ⟨rfl,hb1⟩
  go_wp2
  go_ret
  exact⟨rfl,hb1⟩
 ·obtain⟨L,⟨u,rfl⟩,hrl⟩:=ht.list
  have hr:V.ThRow (T+1) w lv ((n.flat []).map (thU u)):=hrl.row
  have hpos:0 < (n.flat []).length:=List.length_pos_iff.2 (flat_ne hcb.wf hn [])
  have HNd:=hide (node_treeU u n [] hcb hn hs hl (T+1) lv w hr)
  have HH:=hide (fun W=>V.rHash_any n.code W (by have:=code_size hcb;omega))
  have HE:Hid (hashOf n.code=rootOf n):=by
   show _=_
   cases n with
   | nil=>exact absurd rfl hn
   | _=>rfl
  rw[HE.out] at HH
  obtain⟨ao,cap,rfl⟩:=hr.shape
  have hlen:(((n.flat []).map (thU u)).length:Int)=((n.flat []).length:Int):=by simp
  have e0:(((n.flat []).length:Int) == 0)=false:=beq_false_of_ne (by omega)
  rw[List.length_map] at *
  unfold V.NodePost at HNd
  clear hr hrl ht
  go_enter Tryz.func22,Tryz.ntmps22
  go_wp2_with fail
  refine HNd.out.mono ?_
  rintro e w1 ⟨mv,rfl,_,hb1⟩
  have HB1:=hide hb1
  clear hb1
  go_wp2_with fail
  refine (HH.out _).mono ?_
  rintro e w2 ⟨rfl,hb2⟩
  have HB2:=hide hb2
  clear hb2
  go_wp2
  go_ret
  exact⟨rfl,HB1.out.trans (HB2.out.mono HB1.out.size)⟩
theorem RT.set {w0 w:World}{T:Nat}{S lv rv:Value}{n n' : Nd}{L:List V.Th}(h:RT w0 T S lv n)(hb:Below w0.heap.size w0 w)(hp:Plain L n')(hr:V.RowL (T+1) w rv L):RT (w.setCell ⟨T,1,none⟩ rv) T S rv n' := by
 have hbx:=(h.keep hb).box
 refine⟨heap_setCell_same w T 1 _ 77 rv hbx,L,hp,hr.imp id (fun hr=>⟨hr.1,?_⟩)⟩
 refine ThRow.keepX hr.2 (fun g hg _=>Below.heap_setCell _ _ _ _ (by show g≠T;omega)) (fun g cur hg=>?_)
 rw[Below.heap_setCell _ _ _ _ (fun e=>?_)]
 ·exact hg
 ·have e:g=T:=e
  subst e
  rw[hbx] at hg
  simp only[Option.some.injEq,Obj.cells.injEq] at hg
  exact absurd hg.2.1 (by decide)
theorem setAll_len {n:Nd}(hO:TOk n):∀(ps:List Pr),(∀p∈ps,p.1.size≤64∧p.2.size≤400)→((setAll n ps).flat []).length≤(n.flat []).length+ps.length:=fun ps hp=>by
 have:∀k,k≤ps.length→((setAll n (ps.take k)).flat []).length≤(n.flat []).length+k:=by
  intro k
  induction k with
  | zero=>intro _;exact Nat.le_refl _
  | succ k ih =>
    intro hk
    rw[setAll_snoc n ps k (by omega)]
    have h1:=hp _ (getD_in (d:=pr0) (show k<ps.length by omega))
    have h2:=set_len (hO.setAll (ps.take k) (fun p h=>hp p (List.mem_of_mem_take h))) (pathN_lt (ps.getD k pr0).1) (by rw[pathN_length];omega) (v:=(ps.getD k pr0).2) h1.2
    have:=ih (by omega)
    omega
 have h:=this ps.length (Nat.le_refl _)
 rwa [List.take_length] at h
theorem Plain.short {L:List V.Th}{n:Nd}(h:Plain L n)(hO:TOk n):V.Short L:=by
 obtain⟨u,rfl⟩:=h
 exact short_mapU u (flat_short hO)
theorem Plain.noHash {L:List V.Th}{n:Nd}(h:Plain L n):V.NoHash L:=by
 obtain⟨u,rfl⟩:=h
 exact noHash_mapU u _
theorem Plain.len {L:List V.Th}{n:Nd}(h:Plain L n):L.length=(n.flat []).length:=by
 obtain⟨u,rfl⟩:=h
 rw[List.length_map]
theorem rtPut_fits (S lv:Value)(R:Nat)(n:Nd)(ao:Option Addr)(cap:Nat)(ps:List Pr)(w:World)(h:RT w R S lv n)(hO:TOk n)(hp:Prs w ao ps)(hf:∀p∈ps,p.1.size≤64∧p.2.size≤400)(hl:(n.flat []).length+ps.length≤100000000) :
  Calls Tryz.prog 58 #[.pointer (some ⟨R,0,none⟩),.slice ao ps.length cap] w fun e w' => ∃rv W,e=.returned (.int .i64 0)∧w' = W.setCell ⟨R,1,none⟩ rv∧Below w.heap.size w W∧RT w' R S rv (setAll n ps):=by
 obtain⟨L0,hL0,hR0⟩:=h.list
 obtain⟨la,lc,hlv⟩:=hR0.shape
 have HR:=hide h
 have HO:=hide hO
 have HPs:=hide hp
 have HF:=hide hf
 have HLn:=hide hl
 have HL0:=hide (And.intro hL0 hR0)
 have z1:w.cell? ⟨R,1,none⟩=some lv:=cell_of_row _ _ 1 _ _ (0,0) h.box
 have HRl:Hid (R<w.heap.size):=(aGe.1 h.box).1
 have hpl:ps.length≤100000000:=by omega
 have HGet:Hid (∀i,i<ps.length→(ps.getD i pr0).1.size≤64∧(ps.getD i pr0).2.size≤400):=fun i hi=>hf _ (getD_in hi)
 clear h hO hp hf hl hL0 hR0 hlv
 go_enter Tryz.func58,Tryz.ntmps58
 go_wp2_with fail
 go_loopw [5] (fun iv wr=>∃i:Nat,i≤ps.length∧iv=.int .i64 (i:Int)∧wr=w) (fun iv _=>ps.length - (intOf iv).toNat)
 case atStart=>exact⟨0,by omega,rfl,rfl⟩
 case round =>
  obtain⟨i,hi,rfl,rfl⟩:=hrel
  have i0:(0:Int)≤(i:Int):=by omega
  by_cases hil:i<ps.length
  ·have i1:(i:Int)<(ps.length:Int):=by omega
   obtain⟨g,o,rfl,x0,x1⟩:=HPs.out i hil
   have hsz:=(HGet.out i hil).1
   generalize ps.getD i pr0=q at *
   have s1:(q.1.size:Int)≤64:=by omega
   go_wp2
   go_roundw
   case rel=>exact⟨i+1,by omega,by go_num,trivial⟩
   case measure=>simp[intOf];omega
  ·have i1:¬(i:Int)<(ps.length:Int):=by omega
   rename World=>A
   go_wp2_with fail
   go_loopw [6] (fun jv wr=>∃j:Nat,j≤ps.length∧jv=.int .i64 (j:Int)∧wr=A) (fun jv _=>ps.length - (intOf jv).toNat)
   case atStart=>exact⟨0,by omega,rfl,rfl⟩
   case round =>
    obtain⟨j,hj,rfl,rfl⟩:=hrel
    have j0:(0:Int)≤(j:Int):=by omega
    by_cases hjl:j<ps.length
    ·have j1:(j:Int)<(ps.length:Int):=by omega
     obtain⟨g,o,rfl,x0,x1⟩:=HPs.out j hjl
     have hsz:=(HGet.out j hjl).2
     generalize ps.getD j pr0=q at *
     have s1:(q.2.size:Int)≤400:=by omega
     go_wp2
     go_roundw
     case rel=>exact⟨j+1,by omega,by go_num,trivial⟩
     case measure=>simp[intOf];omega
    ·have j1:¬(j:Int)<(ps.length:Int):=by omega
     rename World=>A
     have HTk:Hid (∀k,k≤ps.length→TOk (setAll n (ps.take k))∧((setAll n (ps.take k)).flat []).length≤100000000):=fun k hk =>
      ⟨HO.out.setAll (ps.take k) (fun p h=>HF.out p (List.mem_of_mem_take h)),by
       have:=setAll_len HO.out (ps.take k) (fun p h=>HF.out p (List.mem_of_mem_take h))
       have:=HLn.out
       rw[List.length_take] at *
       omega⟩
     have HX:Hid (∀k,k<ps.length→∀W,Below A.heap.size A W→∃g o,ao=some ⟨g,o,none⟩∧W.cell? ⟨g,o+k*2,none⟩=some (.string (ps.getD k pr0).1)∧W.cell? ⟨g,o+k*2+1,none⟩=some (.string (ps.getD k pr0).2)):=fun k hk W hW=>HPs.out.keep hW k hk
     go_wp2_with fail
     go_loopw [7,8] (fun lvv kv wr=>∃(k:Nat) (L:List V.Th),k≤ps.length∧kv=.int .i64 (k:Int)∧Plain L (setAll n (ps.take k))∧V.RowL (R+1) wr lvv L∧Below A.heap.size A wr) (fun _ kv _=>ps.length - (intOf kv).toNat)
     case atStart=>exact⟨0,L0,by omega,rfl,HL0.out.1,HL0.out.2,Below.refl _ _⟩
     case round =>
      obtain⟨k,L,hk,rfl,hpl2,hrow,hbw⟩:=hrel
      have k0:(0:Int)≤(k:Int):=by omega
      have HB:=hide hbw
      have HRw:=hide hrow
      have HPl:=hide hpl2
      by_cases hkl:k<ps.length
      ·have k1:(k:Int)<(ps.length:Int):=by omega
       obtain⟨g,o,rfl,x0,x1⟩:=HX.out k hkl wr hbw
       have HXk:=hide (HX.out k hkl)
       have HNx:Hid (Plain (V.putL L (intsOf (pathN (ps.getD k pr0).1)) (ps.getD k pr0).2) (setAll n (ps.take (k+1)))):=by
        have hq:=HGet.out k hkl
        show Plain _ _
        rw[setAll_snoc n ps k hkl]
        exact hpl2.put (HTk.out k hk).1 (pathN_lt _) (by rw[pathN_length];omega) hq.2
       have HPut:=hide (fun pa pc W (hW:Below wr.heap.size wr W) hp=>V.put_any S (R+1) u7 L pa pc (intsOf (pathN (ps.getD k pr0).1)) (ps.getD k pr0).2 W (hrow.keep hW) (by have:=HRl.out;have:=hbw.size;have:=hW.size;omega) (hpl2.short (HTk.out k hk).1) hpl2.noHash hp (by rw[path_len];have:=(HGet.out k hkl).1;omega) (by rw[hpl2.len];have:=(HTk.out k hk).2;omega))
       have HHv:=hide (fun W=>halves_path (ps.getD k pr0).1 W (by have:=(HGet.out k hkl).1;omega))
       generalize ps.getD k pr0=q at *
       have z0:wr.cell? ⟨R,0,none⟩=some S:=cell_of_row _ _ 0 _ _ (0,0) (HR.out.keep hbw).box
       clear hrow hpl2 hbw HX
       go_wp2_with fail
       go_region_held3 (fun W=>W.cell? ⟨R,0,none⟩=some S∧W.cell? ⟨g,o+k*2,none⟩=some (.string q.1)∧W.cell? ⟨g,o+k*2+1,none⟩=some (.string q.2)) (first|go_keep|(simp[*])) ((first
        | (go_at_call 21;refine (HHv.out _).mono ?_;rintro e w3 ⟨pa,pc,rfl,hps,hb3⟩;have HB3:Hid (Below wr.heap.size wr w3):=(by first|exact hb3|exact (Below.refl _ _).drew.trans hb3);have HPs3:=hide hps;have HBA3:Hid (Below A.heap.size A w3):=HB.out.trans (HB3.out.mono HB.out.size);obtain⟨g', o', e', y03,y13⟩:=HXk.out w3 HBA3.out;obtain⟨rfl,rfl⟩:g=g' ∧ o=o' := (by simpa using e');have z03:w3.cell? ⟨R,0,none⟩=some S:=cell_of_row _ _ 0 _ _ (0,0) (HR.out.keep HBA3.out).box;clear hps hb3 e')
        | (go_at_call 20;refine (HPut.out _ _ _ HB3.out HPs3.out).mono ?_;rintro e w4 ⟨rv,rfl,hr4,hb4⟩;have HB4:Hid (Below A.heap.size A w4):=HBA3.out.trans (hb4.mono HBA3.out.size);have HR4:=hide hr4;obtain⟨g', o', e', y04,y14⟩:=HXk.out w4 HB4.out;obtain⟨rfl,rfl⟩:g=g' ∧ o=o' := (by simpa using e');have z04:w4.cell? ⟨R,0,none⟩=some S:=cell_of_row _ _ 0 _ _ (0,0) (HR.out.keep HB4.out).box;clear hr4 hb4 e')))
       all_goals
        go_wp2
        go_roundw
        case rel=>exact⟨k+1,_,by omega,by go_num,HNx.out,HR4.out,HB4.out⟩
        case measure=>simp[intOf];omega
      ·obtain rfl:k=ps.length:=by omega
       have hbox:=(HR.out.keep hbw).box
       have c1:wr.cell? ⟨R,1,none⟩=some lv:=cell_of_row _ _ 1 _ _ (0,0) hbox
       have f1:wr.frozen? ⟨R,1,none⟩=false:=frozen_of_row _ _ 1 _ _ hbox
       obtain⟨ra,rc,rfl⟩:=hrow.shape
       have HE:Hid (setAll n (ps.take ps.length)=setAll n ps):=by show _=_;rw[List.take_length]
       clear hrow hpl2 hbw hbox HX
       go_wp2
       go_ret
       refine⟨_,wr,rfl,rfl,HB.out,?_⟩
       have h:=HPl.out
       rw[HE.out] at h
       exact HR.out.set HB.out h HRw.out
def putErr (ps:List Pr):Int:=if ps.any (fun p=>decide (64 < p.1.size))=true then 8 else if ps.any (fun p=>decide (400 < p.2.size))=true then 9 else 0
theorem putErr_fits {ps:List Pr}:putErr ps=0↔∀p∈ps,p.1.size≤64∧p.2.size≤400:=by
 unfold putErr
 constructor
 ·intro h p hp
  split at h
  ·omega
  ·rename_i h1
   split at h
   ·omega
   ·rename_i h2
    simp only[List.any_eq_true,not_exists,not_and,decide_eq_true_eq] at h1 h2
    have:=h1 p hp
    have:=h2 p hp
    omega
 ·intro h
  rw[if_neg,if_neg]
  ·simp only[List.any_eq_true,not_exists,not_and,decide_eq_true_eq]
   intro p hp;have:=h p hp;omega
  ·simp only[List.any_eq_true,not_exists,not_and,decide_eq_true_eq]
   intro p hp;have:=h p hp;omega
theorem rtPut_long (R:Nat)(ao:Option Addr)(cap:Nat)(ps:List Pr)(w:World)(hp:Prs w ao ps)(hf:¬putErr ps=0)(hl:ps.length≤100000000) :
  Calls Tryz.prog 58 #[.pointer (some ⟨R,0,none⟩),.slice ao ps.length cap] w fun e w' => e=.returned (.int .i64 (putErr ps))∧Below w.heap.size w w' := by
 have HPs:=hide hp
 clear hp
 by_cases h1:ps.any (fun p=>decide (64 < p.1.size))=true
 ·have HE:Hid (putErr ps=8):=if_pos h1
  have HA:=hide h1
  clear h1 hf
  go_enter Tryz.func58,Tryz.ntmps58
  go_wp2_with fail
  go_loopw [5] (fun iv wr=>∃i:Nat,i≤ps.length∧iv=.int .i64 (i:Int)∧wr=w∧∀j,j<i→(ps.getD j pr0).1.size≤64) (fun iv _=>ps.length - (intOf iv).toNat)
  case atStart=>exact⟨0,by omega,rfl,rfl,fun j hj=>by omega⟩
  case round =>
   obtain⟨i,hi,rfl,rfl,hall⟩:=hrel
   have HAl:=hide hall
   clear hall
   have i0:(0:Int)≤(i:Int):=by omega
   by_cases hil:i<ps.length
   ·have i1:(i:Int)<(ps.length:Int):=by omega
    obtain⟨g,o,rfl,x0,x1⟩:=HPs.out i hil
    by_cases hs:(ps.getD i pr0).1.size≤64
    ·have HA2:Hid (∀j,j<i+1→(ps.getD j pr0).1.size≤64):=fun j hj=>by
      by_cases e:j=i
      ·rw[e];exact hs
      ·exact HAl.out j (by omega)
     generalize ps.getD i pr0=q at *
     have s1:(q.1.size:Int)≤64:=by omega
     go_wp2
     go_roundw
     case rel=>exact⟨i+1,by omega,by go_num,trivial,HA2.out⟩
     case measure=>simp[intOf];omega
    ·generalize ps.getD i pr0=q at *
     have s1:(64:Int)<(q.1.size:Int):=by omega
     go_wp2
     go_ret
     exact⟨by rw[HE.out];rfl,Below.refl _ _⟩
   ·exfalso
    have h:=HA.out
    simp only[List.any_eq_true,decide_eq_true_eq] at h
    obtain⟨p,hp,h2⟩:=h
    obtain⟨j,hj,rfl⟩:=List.getElem_of_mem hp
    have h3:=HAl.out j (by omega)
    rw[List.getD_eq_getElem?_getD,List.getElem?_eq_getElem hj] at h3
    simp only[Option.getD_some] at h3
    omega
 ·have h2:ps.any (fun p=>decide (400 < p.2.size))=true:=by
   by_cases h2:ps.any (fun p=>decide (400 < p.2.size))=true
   ·exact h2
   ·exact absurd (by unfold putErr;rw[if_neg h1,if_neg h2]) hf
  have HE:Hid (putErr ps=9):=by show _=_;unfold putErr;rw[if_neg h1,if_pos h2]
  have HA:=hide h2
  have HK:Hid (∀i,i<ps.length→(ps.getD i pr0).1.size≤64):=fun i hi=>by
   simp only[List.any_eq_true,not_exists,not_and,decide_eq_true_eq] at h1
   have:=h1 _ (getD_in (d:=pr0) hi)
   omega
  clear h1 h2 hf
  go_enter Tryz.func58,Tryz.ntmps58
  go_wp2_with fail
  go_loopw [5] (fun iv wr=>∃i:Nat,i≤ps.length∧iv=.int .i64 (i:Int)∧wr=w) (fun iv _=>ps.length - (intOf iv).toNat)
  case atStart=>exact⟨0,by omega,rfl,rfl⟩
  case round =>
   obtain⟨i,hi,rfl,rfl⟩:=hrel
   have i0:(0:Int)≤(i:Int):=by omega
   by_cases hil:i<ps.length
   ·have i1:(i:Int)<(ps.length:Int):=by omega
    obtain⟨g,o,rfl,x0,x1⟩:=HPs.out i hil
    have hsz:=HK.out i hil
    generalize ps.getD i pr0=q at *
    have s1:(q.1.size:Int)≤64:=by omega
    go_wp2
    go_roundw
    case rel=>exact⟨i+1,by omega,by go_num,trivial⟩
    case measure=>simp[intOf];omega
   ·have i1:¬(i:Int)<(ps.length:Int):=by omega
    rename World=>A
    go_wp2_with fail
    go_loopw [6] (fun jv wr=>∃j:Nat,j≤ps.length∧jv=.int .i64 (j:Int)∧wr=A∧∀l,l<j→(ps.getD l pr0).2.size≤400) (fun jv _=>ps.length - (intOf jv).toNat)
    case atStart=>exact⟨0,by omega,rfl,rfl,fun l hl=>by omega⟩
    case round =>
     obtain⟨j,hj,rfl,rfl,hall⟩:=hrel
     have HAl:=hide hall
     clear hall
     have j0:(0:Int)≤(j:Int):=by omega
     by_cases hjl:j<ps.length
     ·have j1:(j:Int)<(ps.length:Int):=by omega
      obtain⟨g,o,rfl,x0,x1⟩:=HPs.out j hjl
      by_cases hs:(ps.getD j pr0).2.size≤400
      ·have HA2:Hid (∀l,l<j+1→(ps.getD l pr0).2.size≤400):=fun l hl=>by
        by_cases e:l=j
        ·rw[e];exact hs
        ·exact HAl.out l (by omega)
       generalize ps.getD j pr0=q at *
       have s1:(q.2.size:Int)≤400:=by omega
       go_wp2
       go_roundw
       case rel=>exact⟨j+1,by omega,by go_num,trivial,HA2.out⟩
       case measure=>simp[intOf];omega
      ·generalize ps.getD j pr0=q at *
       have s1:(400:Int)<(q.2.size:Int):=by omega
       go_wp2
       go_ret
       exact⟨by rw[HE.out];rfl,Below.refl _ _⟩
     ·exfalso
      have h:=HA.out
      simp only[List.any_eq_true,decide_eq_true_eq] at h
      obtain⟨p,hp,h2⟩:=h
      obtain⟨l,hl,rfl⟩:=List.getElem_of_mem hp
      have h3:=HAl.out l (by omega)
      rw[List.getD_eq_getElem?_getD,List.getElem?_eq_getElem hl] at h3
      simp only[Option.getD_some] at h3
      omega
theorem TreeAt.ex {Hk:Nd→ByteArray→Prop}{ok:Nat→Prop}{X:Nat→Prop}{w w' : World}{T:Nat}{st:Value}{n:Nd}(h:TreeAt Hk ok w T st n)(hx:Ex X w w')(hT:¬X T)(hok:∀k,ok k→¬X k):TreeAt Hk ok w' T st n:=by
 have hl:=h.lt
 obtain⟨u,h1,h2⟩:=h.held
 exact⟨⟨u,(hx.block T hl hT).trans h1,NdAt.keepIn (fun b hb hbl=>hx.block b hbl (hok b hb)) n u h2⟩,fun k hk=>⟨Nat.lt_of_lt_of_le (h.blk k hk).1 hx.size,(h.blk k hk).2⟩⟩
theorem infoPr:(Tryz.prog.info? 33).map (fun i=>(i.zero,i.size,i.bytes))=some (some (.agg #[.string ⟨#[]⟩,.string ⟨#[]⟩]),2,32):=by kernel_rfl
theorem KeepH.cells {ok:Nat→Prop}{w w' : World}(h:KeepH ok w w'){k:Nat}{cs:Array Value}{t:TypeId}{fr:Nat×Nat}(hk:w.heap[k]? = some (.cells cs t fr))(h1:t≠282)(h2:t≠285):w'.heap[k]? = some (.cells cs t fr) :=
 h.other k _ hk (fun cs' t' fr' e=>by
  injection e with _ e _
  exact⟨fun e' => h1 (e.trans e'),fun e' => h2 (e.trans e')⟩)
theorem two_boxes (w:World)(cs1 cs2:Array Value)(t1 t2:TypeId):((w.alloc (.cells cs1 t1)).alloc (.cells cs2 t2)).heap[w.heap.size]? = some (.cells cs1 t1 (0,0))∧((w.alloc (.cells cs1 t1)).alloc (.cells cs2 t2)).heap[w.heap.size+1]? = some (.cells cs2 t2 (0,0))∧Below w.heap.size w ((w.alloc (.cells cs1 t1)).alloc (.cells cs2 t2)):=by
 refine⟨(Below.heap_alloc (w.alloc (.cells cs1 t1)) (.cells cs2 t2) w.heap.size (by simp)).trans (heap_alloc_new w _),?_,(below_alloc w _).alloc (by simp) _⟩
 have h:=heap_alloc_new (w.alloc (.cells cs1 t1)) (.cells cs2 t2)
 rwa [World.size_alloc] at h
theorem infoS1:(Tryz.prog.info? 9).map (fun i=>(i.zero,i.size,i.bytes))=some (some (.string ⟨#[]⟩),1,16):=by kernel_rfl
theorem TreeAt.nil_same {Hk:Nd→ByteArray→Prop}{w w' : World}{T:Nat}{st:Value}(h:TreeAt Hk (fun _=>False) w T st .nil)(hs:∀(cs:Array Value),w.heap[T]? = some (.cells cs 71 (0,0))→w'.heap[T]? = some (.cells cs 71 (0,0))):TreeAt Hk (fun _=>False) w' T st .nil:=by
 obtain⟨u,h1,h2⟩:=h.held
 exact⟨⟨u,hs _ h1,h2⟩,fun k hk=>hk.elim⟩
def put4 (W:World)(B:Nat)(a b c d:Value):World:=((((W.setCell ⟨B,6,none⟩ a).setCell ⟨B,7,none⟩ b).setCell ⟨B,8,none⟩ c).setCell ⟨B,9,none⟩ d).drew.drew
end Go.Proofs.YthdjmldddjljfaaGreatDoor
namespace Go.Proofs.YthdjmldddjljfaaGreatDoor
open Go.RowKit
def prC (xs:List Pr):List Value:=xs.flatMap fun x=>[.string x.1,.string x.2]
theorem prC_snoc (xs:List Pr)(x:Pr):prC (xs++[x])=prC xs++[.string x.1,.string x.2]:=by simp[prC]
theorem prC_get (xs:List Pr)(i:Nat)(h:i<xs.length):(prC xs)[i*2]? = some (.string (xs.getD i pr0).1)∧(prC xs)[i*2+1]? = some (.string (xs.getD i pr0).2):=by
 induction xs generalizing i with
 | nil=>simp at h
 | cons x xs ih =>
   have e:prC (x :: xs)=.string x.1 :: .string x.2 :: prC xs:=rfl
   rw[e]
   cases i with
   | zero=>simp
   | succ i =>
     have:=ih i (by simpa using h)
     rw[show (i+1)*2=i*2+1+1 from by omega]
     simpa using this
theorem Prs.ofRow {w:World}{base c:Nat}{ao:Option Addr}{ps:List Pr}(h:w.ownsRow base 33 2 (.slice ao ps.length c) ps.length (prC ps)):Prs w ao ps:=by
 intro i hi
 rcases h.2 with⟨_,h0⟩|⟨g,c', cur,hh,_⟩
 ·omega
 ·injection hh with hh1 _ _
  obtain⟨k1,k2⟩:=prC_get ps i hi
  have c1:=h.cells (g:=g) (by rw[hh1];rfl) _ _ k1
  have c2:=h.cells (g:=g) (by rw[hh1];rfl) _ _ k2
  rw[addr_add] at c1 c2
  exact⟨g,0,hh1,c1,c2⟩
theorem text_inj {a b:ByteArray}(h:a.toList=b.toList):a=b:=by
 rw[ByteArray.toList_eq,ByteArray.toList_eq] at h
 exact ByteArray.ext (Array.toList_inj.1 h)
end Go.Proofs.YthdjmldddjljfaaGreatDoor
namespace Go.Proofs.YthdjmldddjljfaaGreatDoor
open Go.RowKit
attribute [local go_sem ↓] Go.wp_at_zero Go.wp_at_succ
theorem rtGet_long (R:Nat)(k:ByteArray)(w:World)(hk:¬k.size≤64) :
  Calls Tryz.prog 35 #[.pointer (some ⟨R,0,none⟩),.string k] w fun e w' => e=.returned (.tuple #[.string e0,.int .i64 8])∧Below w.heap.size w w' := by
 have k1:(64:Int)<(k.size:Int):=by omega
 clear hk
 go_enter Tryz.func35,Tryz.ntmps35
 go_wp2
 go_ret2
 exact⟨rfl,Below.refl _ _⟩
theorem plain_at {L:List V.Th}{n:Nd}(h:Plain L n)(hO:TOk n)(q:List Nat) :
  ((n.look q).size=0∧V.atR L (intsOf q) = -1)∨((n.look q).size≠0∧∃k,k<L.length∧V.atR L (intsOf q)=(k:Int)∧(L.getD k V.th0).value=n.look q):=by
 obtain⟨u,rfl⟩:=h
 have hm:=flat_mem0 hO.wf
 by_cases hany:((n.flat []).map (thU u)).any (V.atF (intsOf q))=true
 ·right
  have hi:((n.flat []).map (thU u)).findIdx (V.atF (intsOf q))<((n.flat []).map (thU u)).length:=List.findIdx_lt_length.2 (List.any_eq_true.1 hany)
  have hat:=List.findIdx_getElem (w:=hi)
  have hi2:((n.flat []).map (thU u)).findIdx (V.atF (intsOf q))<(n.flat []).length:=by simpa using hi
  rw[List.getElem_map,atF_thU] at hat
  have e:=of_decide_eq_true hat
  have hz:=(hm _).1 (List.getElem_mem hi2)
  rw[e] at hz
  refine⟨by rw[hz.1];exact hz.2,_,hi,by unfold V.atR;rw[if_pos hany],?_⟩
  rw[List.getD_eq_getElem?_getD,List.getElem?_eq_getElem hi]
  simp only[Option.getD_some,List.getElem_map]
  exact hz.1.symm
 ·left
  refine⟨?_,by unfold V.atR;rw[if_neg hany]⟩
  by_cases e:(n.look q).size=0
  ·exact e
  ·exfalso
   apply hany
   rw[List.any_eq_true]
   exact⟨thU u (q,n.look q),List.mem_map.2 ⟨_,(hm (q,n.look q)).2 ⟨rfl,e⟩,rfl⟩,by rw[atF_thU,decide_eq_true rfl]⟩
theorem rtGet_any (S lv:Value)(R:Nat)(n:Nd)(k:ByteArray)(w:World)(h:RT w R S lv n)(hO:TOk n)(hk:k.size≤64)(hl:(n.flat []).length≤100000000) :
  Calls Tryz.prog 35 #[.pointer (some ⟨R,0,none⟩),.string k] w fun e w' => e=gotE (n.look (pathN k))∧Below w.heap.size w w' := by
 obtain⟨L,hpl,hrow⟩:=h.list
 have hth:=hrow.row
 have hP:(intsOf (pathN k)).length≤100000:=by rw[path_len];omega
 have hLl:L.length≤10000000000:=by rw[hpl.len];omega
 have HAl:=hide (fun pa pc W (hW:Below w.heap.size w W) hp=>V.along_plain S lv L (R+1) pa pc (intsOf (pathN k)) W (hth.keep hW) (hpl.short hO) hpl.noHash hp hP hLl)
 have HAt:=hide (fun pa pc W (hW:Below w.heap.size w W) hp=>V.at_any (R+1) lv L pa pc (intsOf (pathN k)) W (hth.keep hW) (hpl.short hO) hLl hp hP)
 have HHv:=hide (fun W=>halves_path k W (by omega))
 have k1:(k.size:Int)≤64:=by omega
 have HZ:Hid (∀W,Below w.heap.size w W→W.cell? ⟨R,0,none⟩=some S∧W.cell? ⟨R,1,none⟩=some lv):=fun W hW=>⟨cell_of_row _ _ 0 _ _ (0,0) (h.keep hW).box,cell_of_row _ _ 1 _ _ (0,0) (h.keep hW).box⟩
 have HC:Hid (∀i,i<L.length→∀W,Below w.heap.size w W→∃g cap,lv=.slice (some ⟨g,0,none⟩) L.length cap∧W.cell? ⟨g,i*4+1,none⟩=some (.string (L.getD i V.th0).value)):=fun i hi W hW=>by
  obtain⟨g,cap,pa,pc,h1,h2,h3,h4,_⟩:=(hth.keep hW).cellAt i hi
  exact⟨g,cap,h1,h4⟩
 have hcase:=plain_at hpl hO (pathN k)
 obtain⟨la,lc,hlv⟩:=hth.shape
 clear h hth hP hLl hO hpl hrow hk hl
 subst hlv
 rcases hcase with⟨hs,hat⟩|⟨hs,i,hi,hat,hval⟩
 ·have HG:Hid (gotE (n.look (pathN k))=.returned (.tuple #[.string e0,.int .i64 10])):=by show _=_;unfold gotE;rw[if_pos hs]
  rw[hat] at HAt
  clear hs hat HC
  go_enter Tryz.func35,Tryz.ntmps35
  go_wp2_with fail
  refine (HHv.out _).mono ?_
  rintro e w1 ⟨pa,pc,rfl,hps,hb1⟩
  have HB1:=hide hb1
  have HPs:=hide hps
  obtain⟨z0,z1⟩:=HZ.out w1 hb1
  clear hps hb1
  go_wp2_with fail
  go_region_held3 (fun W=>W.cell? ⟨R,0,none⟩=some S∧W.cell? ⟨R,1,none⟩=some (.slice la L.length lc)) (first|go_keep|(simp[*])) ((go_at_call 49;refine (HAl.out _ _ _ (by first|exact HB1.out.drew|exact HB1.out) (by first|exact HPs.out|exact HPs.out.keep (V.KpI.of_below (Below.refl _ _).drew))).mono ?_;rintro e w3 ⟨rfl,hb3⟩;have HB3:Hid (Below w1.heap.size w1 w3):=(by first|exact hb3|exact (Below.refl _ _).drew.trans hb3);have HB3w:Hid (Below w.heap.size w w3):=HB1.out.trans (HB3.out.mono HB1.out.size);obtain⟨z03,z13⟩:=HZ.out w3 HB3w.out;clear hb3))
  all_goals
   have HAt3:=hide (HAt.out pa pc w3 HB3w.out (HPs.out.keep (V.KpI.of_below HB3.out)))
   go_wp2_with fail
   refine HAt3.out.mono ?_
   rintro e w4 ⟨rfl,hb4⟩
   have HB4:Hid (Below w.heap.size w w4):=HB3w.out.trans (hb4.mono HB3w.out.size)
   clear hb4
   go_wp2
   go_ret2
   exact⟨by rw[HG.out];rfl,HB4.out⟩
 ·have HG:Hid (gotE (n.look (pathN k))=.returned (.tuple #[.string (n.look (pathN k)),.int .i64 0])):=by show _=_;unfold gotE;rw[if_neg hs]
  rw[hat] at HAt
  have HCi:=hide (HC.out i hi)
  rw[hval] at HCi
  have i0:(0:Int)≤(i:Int):=by omega
  have i1:(i:Int)<(L.length:Int):=by omega
  clear hs hat HC hval hi
  generalize n.look (pathN k)=VV at *
  go_enter Tryz.func35,Tryz.ntmps35
  go_wp2_with fail
  refine (HHv.out _).mono ?_
  rintro e w1 ⟨pa,pc,rfl,hps,hb1⟩
  have HB1:=hide hb1
  have HPs:=hide hps
  obtain⟨z0,z1⟩:=HZ.out w1 hb1
  clear hps hb1
  go_wp2_with fail
  go_region_held3 (fun W=>W.cell? ⟨R,0,none⟩=some S∧W.cell? ⟨R,1,none⟩=some (.slice la L.length lc)) (first|go_keep|(simp[*])) ((go_at_call 49;refine (HAl.out _ _ _ (by first|exact HB1.out.drew|exact HB1.out) (by first|exact HPs.out|exact HPs.out.keep (V.KpI.of_below (Below.refl _ _).drew))).mono ?_;rintro e w3 ⟨rfl,hb3⟩;have HB3:Hid (Below w1.heap.size w1 w3):=(by first|exact hb3|exact (Below.refl _ _).drew.trans hb3);have HB3w:Hid (Below w.heap.size w w3):=HB1.out.trans (HB3.out.mono HB1.out.size);obtain⟨z03,z13⟩:=HZ.out w3 HB3w.out;clear hb3))
  all_goals
   have HAt3:=hide (HAt.out pa pc w3 HB3w.out (HPs.out.keep (V.KpI.of_below HB3.out)))
   go_wp2_with fail
   refine HAt3.out.mono ?_
   rintro e w4 ⟨rfl,hb4⟩
   have HB4:Hid (Below w.heap.size w w4):=HB3w.out.trans (hb4.mono HB3w.out.size)
   obtain⟨g,cap,hv,y1⟩:=HCi.out w4 HB4.out
   obtain⟨rfl,rfl⟩:la=some ⟨g,0,none⟩∧lc=cap:=by simpa using hv
   clear hb4 hv
   go_wp2
   go_ret2
   exact⟨by rw[HG.out];rfl,HB4.out⟩
def delP (ks:List ByteArray):List Pr:=ks.map (fun k=>(k,(⟨#[]⟩:ByteArray)))
theorem setAll_del (n:Nd):∀(ks:List ByteArray),setAll n (delP ks)=dropAll n ks
 | []=>rfl
 | k :: ks=>by
   have e:setAll n (delP (k :: ks))=setAll (n.set (pathN k) ⟨#[]⟩) (delP ks):=rfl
   have e2:n.set (pathN k) ⟨#[]⟩=n.drop (pathN k):=by unfold Nd.set;rw[if_pos (show (⟨#[]⟩:ByteArray).size=0 from rfl)]
   rw[e,e2,setAll_del (n.drop (pathN k)) ks]
   rfl
theorem rtDelete_any (Q:Ending→World→Prop)(R:Nat)(ao:Option Addr)(cap:Nat)(ks:List ByteArray)(w:World)(hp:Kys w ao ks)(hl:ks.length≤100000000)
  (hP:∀W bo bc,Below w.heap.size w W→Prs W bo (delP ks)→Calls Tryz.prog 58 #[.pointer (some ⟨R,0,none⟩),.slice bo (delP ks).length bc] W Q) (hr:∀e w', Q e w' → ∃z,e=.returned (.int .i64 z)) :
  Calls Tryz.prog 60 #[.pointer (some ⟨R,0,none⟩),.slice ao ks.length cap] w Q:=by
 obtain⟨i0,hi0,hz0,hz1,hz2⟩:=info_parts infoPr
 have HK:=hide hp
 have HP:=hide hP
 have HQ:=hide hr
 have HT:Hid (∀i,i<ks.length→prC (delP (ks.take (i+1)))=prC (delP (ks.take i))++[.string (ks.getD i e0),.string ⟨#[]⟩]):=fun i hi=>by
  rw[List.take_succ_eq_append_getElem hi]
  have e:ks.getD i e0=ks[i]:=by rw[List.getD_eq_getElem?_getD,List.getElem?_eq_getElem hi];rfl
  rw[e]
  unfold delP
  rw[List.map_append]
  exact prC_snoc _ _
 clear hp hP hr
 go_enter Tryz.func60,Tryz.ntmps60
 go_wp2_with fail
 go_loopw [5,6] (fun lv iv wr=>∃i:Nat,i≤ks.length∧iv=.int .i64 (i:Int)∧wr.ownsRow w.heap.size 33 2 lv i (prC (delP (ks.take i)))∧Below w.heap.size w wr) (fun _ iv _=>ks.length - (intOf iv).toNat)
 case atStart=>exact⟨0,by omega,rfl,World.ownsRow_nil _ _ _ _,Below.refl _ _⟩
 case round =>
  obtain⟨i,hi,rfl,hown,hbw⟩:=hrel
  have HO:=hide hown
  have HB:=hide hbw
  have j0:(0:Int)≤(i:Int):=by omega
  by_cases hil:i<ks.length
  ·have j1:(i:Int)<(ks.length:Int):=by omega
   obtain⟨g,o,rfl,x0⟩:=HK.out.keep hbw i hil
   have HTi:=hide (HT.out i hil)
   generalize ks.getD i e0=k at *
   have HO2:=hide (hown.alloc (.cells #[.string k,.string ⟨#[]⟩] 33))
   have HNews:Hid (∀jx u,[Value.string k,.string ⟨#[]⟩][jx]? = some u→(wr.alloc (.cells #[.string k,.string ⟨#[]⟩] 33)).cell? ((⟨wr.heap.size,0,none⟩:Addr).add jx)=some u):=World.news_of_block (cs:=#[.string k,.string ⟨#[]⟩]) (heap_alloc_new wr (.cells #[.string k,.string ⟨#[]⟩] 33))
   have HB2:Hid (Below w.heap.size w (wr.alloc (.cells #[.string k,.string ⟨#[]⟩] 33))):=hbw.alloc hbw.size _
   clear hown hbw
   go_wp2_with (at_builtin;go_must (refine wpList_append_own _ rfl (.tmp 13) (.tmp 19) 27 rfl w.heap.size 33 i0 _ 2 32 Tryz.underlying27 hi0 hz0 hz1 hz2 rfl (by omega) u5 i _ rfl HO2.out ⟨wr.heap.size,0,none⟩ 1 1 [.string k,.string ⟨#[]⟩] rfl rfl HNews.out (by simp[Value.oneCell']) (by unfold maxLen;omega) (by omega) HB2.out.size ?_);intro v3 w3 ho3 hg3 _;go_must (have HO3:=hide (And.intro ho3 hg3));clear ho3 hg3)
   go_roundw
   case rel=>exact⟨i+1,by omega,by go_num,by rw[HTi.out];exact HO3.out.1,HB2.out.grown HO3.out.2 HB2.out.size (own_ge HO2.out (Nat.le_refl _))⟩
   case measure=>simp[intOf];omega
  ·obtain rfl:i=ks.length:=by omega
   have hlen:(delP ks).length=ks.length:=by unfold delP;rw[List.length_map]
   obtain⟨va,vc,rfl⟩:=ownsRow_slice hown
   rw[List.take_length,←hlen] at hown
   have HPut:=hide (HP.out wr va vc hbw (Prs.ofRow hown))
   rw[hlen] at HPut
   clear hown hbw hlen
   go_wp2_with fail
   refine HPut.out.mono ?_
   intro e w2 hq
   obtain⟨z,rfl⟩:=HQ.out e w2 hq
   have HQ2:=hide hq
   clear hq
   go_wp2
   exact HQ2.out
theorem any_at {ps:List Pr}{f:Pr→Nat}{m:Nat}(h:ps.any (fun p=>decide (m<f p))=true)(h2:∀j,j<ps.length→f (ps.getD j pr0)≤m):False:=by
 simp only[List.any_eq_true,decide_eq_true_eq] at h
 obtain⟨p,hp,h3⟩:=h
 obtain⟨j,hj,rfl⟩:=List.getElem_of_mem hp
 have h4:=h2 j hj
 rw[List.getD_eq_getElem?_getD,List.getElem?_eq_getElem hj] at h4
 simp only[Option.getD_some] at h4
 omega
theorem tPut_err (T:Nat)(ao:Option Addr)(cap:Nat)(ps:List Pr)(w:World)(hp:Prs w ao ps)(hf:¬putErr ps=0)(hl:ps.length≤100000000) :
  Calls Tryz.prog 18 #[ptr T,.slice ao ps.length cap] w fun e w' => e=.returned (.int .i64 (putErr ps))∧Below w.heap.size w w' := by
 have HPs:=hide hp
 have HB0:=hide (below_alloc w (.cells #[ptr T] 104))
 clear hp
 unfold ptr at *
 by_cases h1:ps.any (fun p=>decide (64 < p.1.size))=true
 ·have HE:Hid (putErr ps=8):=if_pos h1
  have HA:=hide h1
  clear h1 hf
  go_enter Tryz.func18,Tryz.ntmps18
  go_wp2_with fail
  generalize World.alloc w _=W0 at *
  go_loopw [11] (fun iv wr=>∃i:Nat,i≤ps.length∧iv=.int .i64 (i:Int)∧(∀j,j<i→(ps.getD j pr0).1.size≤64)∧Hid (Below w.heap.size w wr)) (fun iv _=>ps.length - (intOf iv).toNat)
  case atStart=>exact⟨0,by omega,rfl,fun j hj=>by omega,HB0⟩
  case round =>
   obtain⟨i,hi,rfl,hall,HBW⟩:=hrel
   have HAl:=hide hall
   clear hall
   have i0:(0:Int)≤(i:Int):=by omega
   by_cases hil:i<ps.length
   ·have i1:(i:Int)<(ps.length:Int):=by omega
    obtain⟨g,o,rfl,x0,x1⟩:=HPs.out.keep HBW.out i hil
    have HA2:Hid ((ps.getD i pr0).1.size≤64→∀j,j<i+1→(ps.getD j pr0).1.size≤64):=fun hs j hj=>by
     by_cases e:j=i
     ·rw[e];exact hs
     ·exact HAl.out j (by omega)
    generalize ps.getD i pr0=q at *
    obtain⟨k,v⟩:=q
    dsimp only at x0 x1 HA2
    have HB3:Hid (Below w.heap.size w (wr.alloc (.cells #[.string k,.string v] 33))):=HBW.out.alloc HBW.out.size _
    by_cases hk:k.size≤64
    ·have k1:(k.size:Int)≤64:=by omega
     have HA3:=hide (HA2.out hk)
     clear hk
     go_wp2
     go_roundw
     case rel=>exact⟨i+1,by omega,by go_num,HA3.out,HB3⟩
     case measure=>simp[intOf];omega
    ·have k1:(64:Int)<(k.size:Int):=by omega
     clear hk
     go_wp2
     go_ret
     exact⟨by rw[HE.out];rfl,HB3.out⟩
   ·exact (any_at (f:=fun p=>p.1.size) HA.out (fun j hj=>HAl.out j (by omega))).elim
 ·have h2:ps.any (fun p=>decide (400 < p.2.size))=true:=by
   by_cases h2:ps.any (fun p=>decide (400 < p.2.size))=true
   ·exact h2
   ·exact absurd (by unfold putErr;rw[if_neg h1,if_neg h2]) hf
  have HE:Hid (putErr ps=9):=by show _=_;unfold putErr;rw[if_neg h1,if_pos h2]
  have HA:=hide h2
  have HK:Hid (∀i,i<ps.length→(ps.getD i pr0).1.size≤64):=fun i hi=>by
   simp only[List.any_eq_true,not_exists,not_and,decide_eq_true_eq] at h1
   have:=h1 _ (getD_in (d:=pr0) hi)
   omega
  clear h1 h2 hf
  go_enter Tryz.func18,Tryz.ntmps18
  go_wp2_with fail
  generalize World.alloc w _=W0 at *
  go_loopw [11] (fun iv wr=>∃i:Nat,i≤ps.length∧iv=.int .i64 (i:Int)∧Hid (Below w.heap.size w wr)) (fun iv _=>ps.length - (intOf iv).toNat)
  case atStart=>exact⟨0,by omega,rfl,HB0⟩
  case round =>
   obtain⟨i,hi,rfl,HBW⟩:=hrel
   have i0:(0:Int)≤(i:Int):=by omega
   by_cases hil:i<ps.length
   ·have i1:(i:Int)<(ps.length:Int):=by omega
    obtain⟨g,o,rfl,x0,x1⟩:=HPs.out.keep HBW.out i hil
    have hk:=HK.out i hil
    generalize ps.getD i pr0=q at *
    obtain⟨k,v⟩:=q
    dsimp only at x0 x1 hk
    have HB3:Hid (Below w.heap.size w (wr.alloc (.cells #[.string k,.string v] 33))):=HBW.out.alloc HBW.out.size _
    have k1:(k.size:Int)≤64:=by omega
    clear hk
    go_wp2
    go_roundw
    case rel=>exact⟨i+1,by omega,by go_num,HB3⟩
    case measure=>simp[intOf];omega
   ·have i1:¬(i:Int)<(ps.length:Int):=by omega
    rename World=>A
    go_wp2_with fail
    go_loopw [22] (fun iv wr=>∃i:Nat,i≤ps.length∧iv=.int .i64 (i:Int)∧(∀j,j<i→(ps.getD j pr0).2.size≤400)∧Hid (Below w.heap.size w wr)) (fun iv _=>ps.length - (intOf iv).toNat)
    case atStart=>exact⟨0,by omega,rfl,fun j hj=>by omega,HBW⟩
    case round =>
     obtain⟨j,hj,rfl,hall,HBJ⟩:=hrel
     have HAl:=hide hall
     clear hall
     have j0:(0:Int)≤(j:Int):=by omega
     by_cases hjl:j<ps.length
     ·have j1:(j:Int)<(ps.length:Int):=by omega
      obtain⟨g,o,rfl,x0,x1⟩:=HPs.out.keep HBJ.out j hjl
      have HA2:Hid ((ps.getD j pr0).2.size≤400→∀l,l<j+1→(ps.getD l pr0).2.size≤400):=fun hs l hl=>by
       by_cases e:l=j
       ·rw[e];exact hs
       ·exact HAl.out l (by omega)
      generalize ps.getD j pr0=q at *
      obtain⟨k,v⟩:=q
      dsimp only at x0 x1 HA2
      have HB3:Hid (Below w.heap.size w (wr.alloc (.cells #[.string k,.string v] 33))):=HBJ.out.alloc HBJ.out.size _
      by_cases hv:v.size≤400
      ·have v1:(v.size:Int)≤400:=by omega
       have HA3:=hide (HA2.out hv)
       clear hv
       go_wp2
       go_roundw
       case rel=>exact⟨j+1,by omega,by go_num,HA3.out,HB3⟩
       case measure=>simp[intOf];omega
      ·have v1:(400:Int)<(v.size:Int):=by omega
       clear hv
       go_wp2
       go_ret
       exact⟨by rw[HE.out];rfl,HB3.out⟩
     ·exact (any_at (f:=fun p=>p.2.size) HA.out (fun l hl=>HAl.out l (by omega))).elim
theorem cPut_err (T:Nat)(ao:Option Addr)(cap:Nat)(ps:List Pr)(w:World)(hp:Prs w ao ps)(hf:¬putErr ps=0)(hl:ps.length≤100000000) :
  Calls Tryz.prog 10 #[ptr T,.slice ao ps.length cap] w fun e w' => e=.returned (.int .i64 (putErr ps))∧Below w.heap.size w w' := by
 have HP:=hide (tPut_err T ao cap ps w hp hf hl)
 clear hp hf hl
 generalize putErr ps=E at *
 unfold ptr at *
 go_enter Tryz.func10,Tryz.ntmps10
 go_wp2_with fail
 refine HP.out.mono ?_
 rintro e w5 ⟨rfl,h1⟩
 have HX:=hide h1
 clear h1
 go_wp2
 go_ret
 exact⟨rfl,HX.out⟩
def delErr (ks:List ByteArray):Int:=if ks.any (fun k=>decide (64 < k.size))=true then 8 else 0
theorem delErr_fits {ks:List ByteArray}:delErr ks=0↔∀k∈ks,k.size≤64:=by
 unfold delErr
 constructor
 ·intro h k hk
  split at h
  ·omega
  ·rename_i h1
   simp only[List.any_eq_true,not_exists,not_and,decide_eq_true_eq] at h1
   have:=h1 k hk
   omega
 ·intro h
  rw[if_neg]
  simp only[List.any_eq_true,not_exists,not_and,decide_eq_true_eq]
  intro k hk;have:=h k hk;omega
theorem tDelete_err (T:Nat)(ao:Option Addr)(cap:Nat)(ks:List ByteArray)(w:World)(hp:Kys w ao ks)(hf:¬delErr ks=0)(hl:ks.length≤100000000) :
  Calls Tryz.prog 96 #[ptr T,.slice ao ks.length cap] w fun e w' => e=.returned (.int .i64 (delErr ks))∧Below w.heap.size w w' := by
 have HPs:=hide hp
 have HB0:=hide (below_alloc w (.cells #[ptr T] 104))
 have h1:ks.any (fun k=>decide (64 < k.size))=true:=by
  by_cases h1:ks.any (fun k=>decide (64 < k.size))=true
  ·exact h1
  ·exact absurd (by unfold delErr;rw[if_neg h1]) hf
 have HE:Hid (delErr ks=8):=if_pos h1
 have HA:=hide h1
 clear hp h1 hf
 unfold ptr at *
 go_enter Tryz.func96,Tryz.ntmps96
 go_wp2_with fail
 generalize World.alloc w _=W0 at *
 go_loopw [9] (fun iv wr=>∃i:Nat,i≤ks.length∧iv=.int .i64 (i:Int)∧(∀j,j<i→(ks.getD j e0).size≤64)∧Hid (Below w.heap.size w wr)) (fun iv _=>ks.length - (intOf iv).toNat)
 case atStart=>exact⟨0,by omega,rfl,fun j hj=>by omega,HB0⟩
 case round =>
  obtain⟨i,hi,rfl,hall,HBW⟩:=hrel
  have HAl:=hide hall
  clear hall
  have i0:(0:Int)≤(i:Int):=by omega
  by_cases hil:i<ks.length
  ·have i1:(i:Int)<(ks.length:Int):=by omega
   obtain⟨g,o,rfl,x0⟩:=HPs.out.keep HBW.out i hil
   have HA2:Hid ((ks.getD i e0).size≤64→∀j,j<i+1→(ks.getD j e0).size≤64):=fun hs j hj=>by
    by_cases e:j=i
    ·rw[e];exact hs
    ·exact HAl.out j (by omega)
   generalize ks.getD i e0=k at *
   by_cases hk:k.size≤64
   ·have k1:(k.size:Int)≤64:=by omega
    have HA3:=hide (HA2.out hk)
    clear hk
    go_wp2
    go_roundw
    case rel=>exact⟨i+1,by omega,by go_num,HA3.out,HBW⟩
    case measure=>simp[intOf];omega
   ·have k1:(64:Int)<(k.size:Int):=by omega
    clear hk
    go_wp2
    go_ret
    exact⟨by rw[HE.out];rfl,HBW.out⟩
  ·exfalso
   have h:=HA.out
   simp only[List.any_eq_true,decide_eq_true_eq] at h
   obtain⟨p,hp,h3⟩:=h
   obtain⟨j,hj,rfl⟩:=List.getElem_of_mem hp
   have h4:=HAl.out j (by omega)
   rw[List.getD_eq_getElem?_getD,List.getElem?_eq_getElem hj] at h4
   simp only[Option.getD_some] at h4
   omega
theorem cDelete_err (T:Nat)(ao:Option Addr)(cap:Nat)(ks:List ByteArray)(w:World)(hp:Kys w ao ks)(hf:¬delErr ks=0)(hl:ks.length≤100000000) :
  Calls Tryz.prog 59 #[ptr T,.slice ao ks.length cap] w fun e w' => e=.returned (.int .i64 (delErr ks))∧Below w.heap.size w w' := by
 have HP:=hide (tDelete_err T ao cap ks w hp hf hl)
 clear hp hf hl
 generalize delErr ks=E at *
 unfold ptr at *
 go_enter Tryz.func59,Tryz.ntmps59
 go_wp2_with fail
 refine HP.out.mono ?_
 rintro e w5 ⟨rfl,h1⟩
 have HX:=hide h1
 clear h1
 go_wp2
 go_ret
 exact⟨rfl,HX.out⟩
theorem tGet_long (T:Nat)(k:ByteArray)(w:World)(hk:¬k.size≤64) :
  Calls Tryz.prog 73 #[ptr T,.string k] w fun e w' => e=.returned (.tuple #[.string e0,.int .i64 8])∧Below w.heap.size w w' := by
 have k1:(64:Int)<(k.size:Int):=by omega
 clear hk
 unfold ptr
 go_enter Tryz.func73,Tryz.ntmps73
 go_wp2
 go_ret2
 exact⟨rfl,Below.refl _ _⟩
theorem cGet_long (T:Nat)(k:ByteArray)(w:World)(hk:¬k.size≤64) :
  Calls Tryz.prog 34 #[ptr T,.string k] w fun e w' => e=.returned (.tuple #[.string e0,.int .i64 8])∧Below w.heap.size w w' := by
 have HP:=hide (tGet_long T k w hk)
 clear hk
 unfold ptr at *
 go_enter Tryz.func34,Tryz.ntmps34
 go_wp2_with fail
 refine HP.out.mono ?_
 rintro e w5 ⟨rfl,h1⟩
 have HX:=hide h1
 clear h1
 go_wp2
 go_ret2
 exact⟨rfl,HX.out⟩
end Go.Proofs.YthdjmldddjljfaaGreatDoor
