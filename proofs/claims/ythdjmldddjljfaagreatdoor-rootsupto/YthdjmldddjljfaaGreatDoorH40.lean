/-
  OUR OWN.
-/
import Derived.Test.YthdjmldddjljfaaGreatDoorH39
import Derived.Test.YthdjmldddjljfaaGreatDoorH34
set_option maxHeartbeats 8000000
set_option maxRecDepth 20000
namespace Go.Proofs.YthdjmldddjljfaaGreatDoor
open Go.RowKit
def thOf (z:List Nat×ByteArray):V.Th:=⟨intsOf z.1,z.2,⟨#[]⟩,true⟩
theorem j_cmI:∀(p q:List Nat),V.cmI (intsOf p) (intsOf q)=shared p q
 | [],_=>rfl
 | _ :: _,[]=>rfl
 | a :: p,b :: q=>by
   have ih:=j_cmI p q
   simp only[intsOf,List.map_cons,V.cmI,shared] at ih ⊢
   by_cases e:a=b
   ·rw[if_pos (by rw[e]),if_pos e,ih]
   ·rw[if_neg (by omega),if_neg e]
theorem intsOf_length (p:List Nat):(intsOf p).length=p.length:=by simp[intsOf]
theorem intsOf_append (p q:List Nat):intsOf (p++q)=intsOf p++intsOf q:=by simp[intsOf]
theorem intsOf_take (p q:List Nat):(intsOf (p++q)).take p.length=intsOf p:=by
 rw[intsOf_append,←intsOf_length p,List.take_left]
theorem intsOf_drop (p q:List Nat):(intsOf (p++q)).drop p.length=intsOf q:=by
 rw[intsOf_append,←intsOf_length p,List.drop_left]
theorem intsOf_inj {p q:List Nat}(h:intsOf p=intsOf q):p=q:=by
 unfold intsOf at h
 exact (List.map_inj_right (fun a b hab=>by omega)).1 h
theorem j_shTh (F:List (List Nat×ByteArray)):V.shTh (F.map thOf)=sharedN (F.map Prod.fst):=by
 cases F with
 | nil=>rfl
 | cons x r =>
   simp only[List.map_cons,V.shTh,sharedN,thOf,intsOf_length]
   have:∀(r:List (List Nat×ByteArray)) (n:Nat),(r.map thOf).foldl (fun n y=>min n (V.cmI y.path (intsOf x.1))) n=(r.map Prod.fst).foldl (fun n y=>min n (shared y x.1)) n:=by
    intro r
    induction r with
    | nil=>intro n;rfl
    | cons y r ih=>intro n;simp only[List.map_cons,List.foldl_cons,ih];rw[show (thOf y).path=intsOf y.1 from rfl,j_cmI]
   exact this r _
theorem j_inK (i k:Nat)(z:List Nat×ByteArray):V.inK i k (thOf z)=decide (z.1[i]? = some k):=by
 unfold V.inK thOf
 simp only[intsOf_length]
 by_cases h:i<z.1.length
 ·rw[decide_eq_true h,Bool.true_and,List.getElem?_eq_getElem h,decide_eq_decide]
  simp[intsOf,List.getD_eq_getElem?_getD,h]
  omega
 ·rw[decide_eq_false h,Bool.false_and,List.getElem?_eq_none (by omega)];simp
theorem j_partK (F:List (List Nat×ByteArray))(i k:Nat):V.partK (F.map thOf) i k=(F.filter (fun z=>decide (z.1[i]? = some k))).map thOf:=by
 unfold V.partK
 rw[List.filter_map]
 congr 1
 apply List.filter_congr
 intro z _
 exact j_inK i k z
theorem j_refC (c:ByteArray):V.refC c=refB false c:=by
 unfold V.refC
 rw[j_textC]
 rfl
def madeL:Nd→List Nat→List V.Md
 | .nil=>fun _=>[]
 | .leaf q v=>fun p=>[⟨intsOf p,(Nd.leaf q v).code,decide (32≤(Nd.leaf q v).code.size)⟩]
 | .ext q m=>fun p=>⟨intsOf p,(Nd.ext q m).code,decide (32≤(Nd.ext q m).code.size)⟩ :: madeL m (p++q)
 | .br c v=>fun p=>⟨intsOf p,(Nd.br c v).code,decide (32≤(Nd.br c v).code.size)⟩ :: (List.range 16).flatMap (fun i=>madeL (c i) (p++[i]))
theorem made_list {c:Nat→Nd}{g:Nat→List V.Md}{f:Nat→List (List Nat×ByteArray)}:∀(L:List Nat),(∀i∈L,c i=.nil→g i=[])→(∀i∈L,c i≠.nil→(g i).length+2≤3 * (f i).length) →
  (L.flatMap g).length+2 * (L.filter (fun i=>!(c i).isNil)).length≤3 * (L.flatMap f).length
 | [],_,_=>by simp
 | i :: L,h0,h=>by
   have ih:=made_list (c:=c) (f:=f) (g:=g) L (fun j hj=>h0 j (List.mem_cons_of_mem _ hj)) (fun j hj=>h j (List.mem_cons_of_mem _ hj))
   have hi:=h i (List.mem_cons_self ..)
   rw[List.flatMap_cons,List.length_append,List.filter_cons,List.flatMap_cons,List.length_append]
   cases hn:(c i).isNil with
   | true =>
     have e:c i=.nil:=(isNil_iff _).1 hn
     have e0:=h0 i (List.mem_cons_self ..) e
     simp only[Bool.not_true,Bool.false_eq_true,if_false,e0,List.length_nil]
     omega
   | false =>
     have e:c i≠.nil:=fun e=>by rw[(isNil_iff _).2 e] at hn;cases hn
     have:=hi e
     simp only[Bool.not_false,if_true,List.length_cons]
     omega
theorem made_len:∀(n:Nd) (p:List Nat),n.WF→n≠.nil→(madeL n p).length+2≤3 * (n.flat p).length∧(n.isBr=true→(madeL n p).length+3≤3 * (n.flat p).length)
 | .nil,_,_,h=>absurd rfl h
 | .leaf q v,p,_,_=>⟨by simp[madeL,Nd.flat],fun h=>by simp[Nd.isBr] at h⟩
 | .ext q m,p,hw,_=>by
   have hm:m≠.nil:=fun e=>by
    have:=hw.2.2.1
    rw[e] at this
    simp[Nd.isBr] at this
   have ih:=(made_len m (p++q) hw.2.2.2 hm).2 hw.2.2.1
   refine⟨?_,fun h=>by simp[Nd.isBr] at h⟩
   show (madeL m (p++q)).length+1+2≤3 * (m.flat (p++q)).length
   omega
 | .br c v,p,hw,_=>by
   have hl:=made_list (c:=c) (g:=fun i=>madeL (c i) (p++[i])) (f:=fun i=>(c i).flat (p++[i])) (List.range 16) (fun i _ e=>by rw[e];rfl) (fun i _ hi=>(made_len (c i) (p++[i]) (hw.1 i) hi).1)
   have hp:=hw.2.2
   have key:(madeL (Nd.br c v) p).length+3≤3 * ((Nd.br c v).flat p).length:=by
    show ((List.range 16).flatMap (fun i=>madeL (c i) (p++[i]))).length+1+3≤3 * ((if v.size=0 then [] else [(p,v)])++(List.range 16).flatMap (fun i=>(c i).flat (p++[i]))).length
    rw[List.length_append]
    unfold nParts full at hp
    by_cases hv:v.size=0
    ·rw[if_pos hv] at hp ⊢
     simp only[List.length_nil]
     omega
    ·rw[if_neg hv] at hp ⊢
     simp only[List.length_cons,List.length_nil]
     omega
   exact⟨by omega,fun _=>key⟩
theorem range_mono {α:Type}(f:Nat→List α):∀{k n:Nat},k≤n→((List.range k).flatMap f).length≤((List.range n).flatMap f).length
 | k,0,h=>by obtain rfl:k=0:=by omega
             exact Nat.le_refl _
 | k,n+1,h=>by
   by_cases e:k=n+1
   ·rw[e];exact Nat.le_refl _
   ·refine Nat.le_trans (range_mono f (show k≤n by omega)) ?_
    rw[List.range_succ (n:=n),List.flatMap_append,List.length_append];omega
theorem flat_pre {n:Nd}{p:List Nat}(hw:n.WF):∀z∈n.flat p,∃r,z.1=p++r:=fun z hz=>by
 obtain⟨r,e,_⟩:=(flat_mem n p z hw).1 hz
 exact⟨r,e⟩
theorem flat_ne {n:Nd}(hw:n.WF)(hn:n≠.nil)(p:List Nat):n.flat p≠[]:=by
 obtain⟨r,hr,_⟩:=look_some n hw hn
 exact List.ne_nil_of_mem ((flat_mem n p (p++r,n.look r) hw).2 ⟨r,rfl,rfl,hr⟩)
theorem first_path {F:List (List Nat×ByteArray)}{p:List Nat}(hne:F≠[])(h:∀z∈F,∃r,z.1=p++r):∃r,((F.map thOf).getD 0 V.th0).path=intsOf (p++r):=by
 cases F with
 | nil=>exact absurd rfl hne
 | cons z r =>
   obtain⟨s,hs⟩:=h z (List.mem_cons_self ..)
   exact⟨s,by simp[thOf,hs]⟩
theorem noHash_map (F:List (List Nat×ByteArray)):V.NoHash (F.map thOf):=fun x hx=>by
 obtain⟨z,_,rfl⟩:=List.mem_map.1 hx;rfl
theorem short_map {F:List (List Nat×ByteArray)}(h:∀z∈F,z.1.length≤128):V.Short (F.map thOf):=fun x hx=>by
 obtain⟨z,hz,rfl⟩:=List.mem_map.1 hx
 show (intsOf z.1).length≤128
 rw[intsOf_length];exact h z hz
theorem val_br {c:Nat→Nd}{v:ByteArray}(hw:(Nd.br c v).WF)(p:List Nat):V.valAt (((Nd.br c v).flat p).map thOf) (intsOf p)=v:=by
 unfold V.valAt
 by_cases hv:v.size=0
 ·have hany:(((Nd.br c v).flat p).map thOf).any (V.atF (intsOf p))=false:=by
   rw[List.any_eq_false]
   intro x hx
   obtain⟨z,hz,rfl⟩:=List.mem_map.1 hx
   obtain⟨r,e,l,s⟩:=(flat_mem _ p z hw).1 hz
   have hr:r≠[]:=fun e0=>by
    rw[e0] at l
    have l:v=z.2:=by simpa[Nd.look] using l
    rw[←l] at s;exact s hv
   simp only[V.atF,thOf,Bool.and_eq_true,not_and]
   intro _ h
   have h1:=intsOf_inj (of_decide_eq_true h)
   rw[e] at h1
   have:=congrArg List.length h1
   simp at this
   exact hr this
  rw[hany,if_neg (by simp)]
  have:v=⟨#[]⟩:=ByteArray.ext (Array.eq_empty_of_size_eq_zero hv)
  rw[this];rfl
 ·have hF:(Nd.br c v).flat p=(p,v) :: (List.range 16).flatMap (fun i=>(c i).flat (p++[i])):=by
   show (if v.size=0 then [] else [(p,v)])++_=_
   rw[if_neg hv];rfl
  rw[hF,List.map_cons]
  have h0:V.atF (intsOf p) (thOf (p,v))=true:=by simp[V.atF,thOf];rfl
  rw[List.any_cons,h0,Bool.true_or,if_pos rfl,List.findIdx_cons,h0]
  rfl
theorem node_tleaf (q:List Nat)(v:ByteArray)(p:List Nat)(hcb:CB (.leaf q v))(hz:(p++q).length≤128)(b:Nat)(lv:Value)(W:World)(hr:V.ThRow b W lv [thOf (p++q,v)]) :
  Calls Tryz.prog 56 #[lv,.int .i64 (p.length:Int)] W (V.NodePost (Nd.leaf q v).code (madeL (.leaf q v) p) W):=by
 obtain⟨x,hx⟩:∃x,thOf (p++q,v)=x:=⟨_,rfl⟩
 have h1:x.path=intsOf (p++q):=by rw[←hx];rfl
 have h2:x.value=v:=by rw[←hx];rfl
 have h3:x.hash=⟨#[]⟩:=by rw[←hx];rfl
 rw[hx] at hr
 have hd:x.path.drop p.length=intsOf q:=by rw[h1];exact intsOf_drop p q
 have ht:x.path.take p.length=intsOf p:=by rw[h1];exact intsOf_take p q
 have hl:x.path.length=(p++q).length:=by rw[h1,intsOf_length]
 have hcode:V.listC [V.textC (codeOf true (intsOf q)),V.textC v]=(Nd.leaf q v).code:=by rw[j_listC,j_textC,j_textC];rfl
 have hc6:=code_size hcb
 have hq:isP (intsOf q)=true:=isP_path (by simp at hz;omega) hcb.wf.2
 have h:=V.node_leaf b lv x p.length W hr (by omega) h3 (by rw[hl];simp) (by rw[hd];exact hq) (by rw[hd,h2,hcode];omega)
 unfold V.leafMd at h
 rw[hd,h2,hcode,ht] at h
 exact h
theorem node_tree:∀(n:Nd) (p:List Nat),CB n→n≠.nil→(∀z∈n.flat p,z.1.length≤128)→(n.flat p).length≤100000000→∀(b:Nat) (lv:Value) (W:World),V.ThRow b W lv ((n.flat p).map thOf) →
  Calls Tryz.prog 56 #[lv,.int .i64 (p.length:Int)] W (V.NodePost n.code (madeL n p) W)
 | .nil,_,_,h,_,_,_,_,_,_=>absurd rfl h
 | .leaf q v,p,hcb,_,hs,_,b,lv,W,hr=>node_tleaf q v p hcb (hs (p++q,v) (List.mem_singleton.2 rfl)) b lv W hr
 | .ext q m,p,hcb,_,hs,hl,b,lv,W,hr=>by
   have ih:=node_tree m (p++q) hcb.ext (fun e=>by have:=hcb.wf.2.2.1;rw[e] at this;simp[Nd.isBr] at this) hs hl
   obtain⟨c,v,rfl⟩:∃c v,m=.br c v:=by
    have hw:=hcb.wf
    cases m with
    | br c v=>exact⟨c,v,rfl⟩
    | nil=>exact absurd hw (by simp[Nd.WF,Nd.isBr])
    | leaf _ _=>exact absurd hw (by simp[Nd.WF,Nd.isBr])
    | ext _ _=>exact absurd hw (by simp[Nd.WF,Nd.isBr])
   have hcm:=hcb.ext
   have hwm:=hcm.wf
   have hne:=flat_ne hwm (by simp) (p++q)
   obtain⟨r,hpa⟩:=first_path hne (flat_pre hwm)
   have hcc:=code_size hcm
   have hq0:0 < q.length:=List.length_pos_iff.2 hcb.wf.1
   have hql:q.length≤128:=hcb.len.1
   have hmd:=(made_len (.br c v) (p++q) hwm (by simp)).1
   have e1:(intsOf (p++q++r)).take (p++q).length=intsOf (p++q):=intsOf_take _ _
   have e2:(intsOf (p++q)).drop p.length=intsOf q:=intsOf_drop _ _
   have e3:(intsOf (p++q++r)).take p.length=intsOf p:=by rw[List.append_assoc];exact intsOf_take _ _
   have hcode:V.listC [V.textC (codeOf false (intsOf q)),V.refC (Nd.br c v).code]=(Nd.ext q (.br c v)).code:=by rw[j_listC,j_textC,j_refC];rfl
   have hex:=code_size hcb
   have h:=V.node_ext b lv (((Nd.br c v).flat (p++q)).map thOf) p.length (p++q).length (Nd.br c v).code (madeL (.br c v) (p++q)) W hr (short_map hs) (by rw[List.length_map];exact br_two hwm _) (by rw[List.length_map];exact Nat.le_trans hl (by decide)) (by rw[j_shTh];exact sharedN_br hwm _) (by simp;omega)
    (by rw[hpa,e1,e2];exact isP_path hql hcb.wf.2.1) (fun W' hW=>ih b lv W' (hr.keep hW)) (fun h32=>code_can hwm (by simp) h32) (by omega) (by rw[j_textC,←hash_textC];decide) (by change ((Nd.br c v).flat (p++q)).length≤_ at hl;omega) (by rw[hpa,e1,e2,hcode];omega)
   rw[hpa,e1,e2,e3,hcode] at h
   exact h
 | .br c v,p,hcb,_,hs,hl,b,lv,W,hr=>by
   have hw:=hcb.wf
   have hne:=flat_ne hw (by simp) p
   obtain⟨r,hpa⟩:=first_path hne (flat_pre hw)
   have e1:(intsOf (p++r)).take p.length=intsOf p:=intsOf_take _ _
   have hpk:∀k,k<16→V.partK (((Nd.br c v).flat p).map thOf) p.length k=((c k).flat (p++[k])).map thOf:=fun k hk=>by rw[j_partK,filter_br hw p hk]
   have hnil:∀k,k<16→(V.partK (((Nd.br c v).flat p).map thOf) p.length k).isEmpty=(c k).isNil:=fun k hk=>by
    rw[hpk k hk]
    cases hn:(c k).isNil with
    | true=>rw[(isNil_iff _).1 hn];rfl
    | false =>
      have:=flat_ne (hw.1 k) (fun e=>by rw[(isNil_iff _).2 e] at hn;cases hn) (p++[k])
      rw[List.isEmpty_eq_false_iff]
      exact fun e=>this (List.map_eq_nil_iff.1 e)
   have hsub:∀k,k<16→∀z∈(c k).flat (p++[k]),z∈(Nd.br c v).flat p:=fun k hk z hz=>by
    rw[←filter_br hw p hk] at hz;exact (List.mem_filter.1 hz).1
   have hlen:∀k,k<16→((c k).flat (p++[k])).length≤((Nd.br c v).flat p).length:=fun k hk=>by
    rw[←filter_br hw p hk];exact List.length_filter_le _ _
   have hbT:∀k∈List.range 16,V.brT (((Nd.br c v).flat p).map thOf) p.length (fun k=>(c k).code) k=refB (c k).isNil (c k).code:=fun k hk=>by
    unfold V.brT
    rw[hnil k (List.mem_range.1 hk)]
    cases hn:(c k).isNil with
    | true=>rw[if_pos rfl,j_textC];rfl
    | false=>rw[if_neg (by simp),j_refC]
   have hbM:∀k∈List.range 16,V.brM (((Nd.br c v).flat p).map thOf) p.length (fun k=>madeL (c k) (p++[k])) k=madeL (c k) (p++[k]):=fun k hk=>by
    unfold V.brM
    rw[hnil k (List.mem_range.1 hk)]
    cases hn:(c k).isNil with
    | true=>rw[(isNil_iff _).1 hn];rfl
    | false=>rw[if_neg (by simp)]
   have hMe:(List.range 16).flatMap (V.brM (((Nd.br c v).flat p).map thOf) p.length (fun k=>madeL (c k) (p++[k])))=(List.range 16).flatMap (fun k=>madeL (c k) (p++[k])):=by
    rw[List.flatMap_def,List.flatMap_def,List.map_congr_left hbM]
   have hcode:V.brCode (((Nd.br c v).flat p).map thOf) p.length (fun k=>(c k).code) (intsOf p)=(Nd.br c v).code:=by
    unfold V.brCode
    rw[val_br hw,j_listC,j_textC,List.map_congr_left hbT];rfl
   have hmd:=(made_len (.br c v) p hw (by simp)).1
   have hex:=code_size hcb
   have hmt:((List.range 16).flatMap (fun k=>madeL (c k) (p++[k]))).length≤1000000000:=by
    change ((List.range 16).flatMap (fun k=>madeL (c k) (p++[k]))).length+1+2≤_ at hmd
    omega
   have h:=V.node_br b lv (((Nd.br c v).flat p).map thOf) p.length (fun k=>(c k).code) (fun k=>madeL (c k) (p++[k])) W hr (short_map hs) (noHash_map _) (by rw[List.length_map];exact br_two hw _) (by rw[List.length_map];exact Nat.le_trans hl (by decide)) (by rw[j_shTh];exact sharedN_br hw _)
    (fun k hk hem b' pv W' _ hr' => by
      rw[hpk k hk] at hr'
      rw[hnil k hk] at hem
      have:=node_tree (c k) (p++[k]) (hcb.kid k) (fun e=>by rw[(isNil_iff _).2 e] at hem;cases hem) (fun z hz=>hs z (hsub k hk z hz)) (Nat.le_trans (hlen k hk) hl) b' pv W' hr'
      have e:(((p++[k]).length:Nat):Int)=(p.length:Int)+1:=by simp
      rwa [e] at this)
    (fun k hk hem=>by
      rw[hnil k hk] at hem
      have hkn:c k≠.nil:=fun e=>by rw[(isNil_iff _).2 e] at hem;cases hem
      exact⟨fun h32=>code_can (hw.1 k) hkn h32,by have:=code_size (hcb.kid k);omega,by rw[j_textC,←hash_textC];decide⟩)
    (fun k hk=>by
      refine Nat.le_trans (range_mono _ hk) ?_
      rw[hMe];exact hmt)
    (fun k hk=>by
      by_cases hkn:c k=.nil
      ·simp only[hkn];exact Nat.zero_le _
      ·have h1:=(made_len (c k) (p++[k]) (hw.1 k) hkn).1
       have h2:=hlen k hk
       omega)
    (by rw[hpa,e1,hcode];omega)
   rw[hpa,e1,hcode,hMe] at h
   exact h
end Go.Proofs.YthdjmldddjljfaaGreatDoor
namespace Go.Proofs.YthdjmldddjljfaaGreatDoor
theorem j_less:∀(p q:List Nat),V.lessI (intsOf p) (intsOf q)=true↔plt p q
 | [],[]=>by simp[intsOf,V.lessI,plt]
 | [],_ :: _=>by simp[intsOf,V.lessI,plt]
 | _ :: _,[]=>by simp[intsOf,V.lessI,plt]
 | a :: p,b :: q=>by
   have ih:=j_less p q
   simp only[intsOf,List.map_cons,V.lessI,plt] at ih ⊢
   by_cases e:a=b
   ·rw[if_pos (by rw[e]),ih,e];simp
   ·rw[if_neg (by omega),decide_eq_true_eq]
    constructor
    ·intro h;exact .inl (by omega)
    ·rintro (h|⟨h,_⟩)
     ·omega
     ·exact absurd h e
def insF:List (List Nat×ByteArray)→List Nat×ByteArray→List (List Nat×ByteArray)
 | [],z=>[z]
 | x :: F,z=>if V.lessI (intsOf x.1) (intsOf z.1)=true then x :: insF F z else z :: x :: F
theorem j_insL:∀(F:List (List Nat×ByteArray)) (z:List Nat×ByteArray),V.insL (F.map thOf) (intsOf z.1) z.2=(insF F z).map thOf
 | [],z=>rfl
 | x :: F,z=>by
   have ih:=j_insL F z
   unfold V.insL at ih ⊢
   rw[List.map_cons,V.insK]
   by_cases h:V.lessI (intsOf x.1) (intsOf z.1)=true
   ·rw[if_pos (show V.lessI (thOf x).path (intsOf z.1)=true from h)]
    unfold insF
    rw[if_pos h,List.map_cons,←ih]
    rfl
   ·rw[if_neg (show ¬V.lessI (thOf x).path (intsOf z.1)=true from h)]
    unfold insF
    rw[if_neg h]
    simp only[List.take_zero,List.drop_zero,List.nil_append,List.map_append,List.map_cons,List.map_nil,List.map_map]
    have:(V.mark1 ∘ thOf)=thOf:=rfl
    rw[this];rfl
theorem insF_mem:∀(F:List (List Nat×ByteArray)) (z x:List Nat×ByteArray),x∈insF F z↔x=z∨x∈F
 | [],z,x=>by simp[insF]
 | y :: F,z,x=>by
   unfold insF
   split
   ·rw[List.mem_cons,insF_mem F z x,List.mem_cons]
    constructor
    ·rintro (h|h|h)
     ·exact .inr (.inl h)
     ·exact .inl h
     ·exact .inr (.inr h)
    ·rintro (h|h|h)
     ·exact .inr (.inl h)
     ·exact .inl h
     ·exact .inr (.inr h)
   ·simp[List.mem_cons]
theorem insF_len:∀(F:List (List Nat×ByteArray)) (z:List Nat×ByteArray),(insF F z).length=F.length+1
 | [],_=>rfl
 | y :: F,z=>by
   unfold insF
   split
   ·simp[insF_len F z]
   ·simp
theorem insF_sorted:∀(F:List (List Nat×ByteArray)) (z:List Nat×ByteArray),F.Pairwise (fun x y=>plt x.1 y.1)→(∀x∈F,x.1≠z.1)→(insF F z).Pairwise (fun x y=>plt x.1 y.1)
 | [],z,_,_=>by simp[insF]
 | y :: F,z,hs,hne=>by
   obtain⟨h1,h2⟩:=List.pairwise_cons.1 hs
   unfold insF
   split
   ·rename_i h
    refine List.pairwise_cons.2 ⟨fun x hx=>?_,insF_sorted F z h2 (fun x hx=>hne x (List.mem_cons_of_mem _ hx))⟩
    rcases (insF_mem F z x).1 hx with rfl|hx
    ·exact (j_less _ _).1 h
    ·exact h1 x hx
   ·rename_i h
    have hzy:plt z.1 y.1:=by
     rcases plt_total z.1 y.1 with h3|h3|h3
     ·exact h3
     ·exact absurd h3.symm (hne y (List.mem_cons_self ..))
     ·exact absurd ((j_less _ _).2 h3) h
    refine List.pairwise_cons.2 ⟨fun x hx=>?_,hs⟩
    rcases List.mem_cons.1 hx with rfl|hx
    ·exact hzy
    ·exact plt_trans hzy (h1 x hx)
theorem flat_eq {n:Nd}(hw:n.WF){F:List (List Nat×ByteArray)}(hs:F.Pairwise (fun x y=>plt x.1 y.1))(hm:∀x,x∈F↔(n.look x.1=x.2∧x.2.size≠0)):F=n.flat []:=by
 refine sorted_same (R:=fun x y:List Nat×ByteArray=>plt x.1 y.1) (fun a=>plt_irrefl _) (fun h1 h2=>plt_trans h1 h2) F (n.flat []) hs (flat_sorted n [] hw) (fun x=>?_)
 rw[hm x,flat_mem n [] x hw]
 constructor
 ·rintro⟨h1,h2⟩;exact⟨x.1,rfl,h1,h2⟩
 ·rintro⟨r,h0,h1,h2⟩
  rw[List.nil_append] at h0
  rw[h0];exact⟨h1,h2⟩
end Go.Proofs.YthdjmldddjljfaaGreatDoor
namespace Go.Proofs.YthdjmldddjljfaaGreatDoor
open Go.RowKit
attribute [local go_sem ↓] Go.wp_at_zero Go.wp_at_succ
structure RTree (w:World)(T:Nat)(S lv:Value)(F:List (List Nat×ByteArray)):Prop where
 box:w.heap[T]? = some (.cells #[S,lv] 77 (0,0))
 list:(F=[]∧lv=.slice none 0 0)∨(F≠[]∧V.ThRow (T+1) w lv (F.map thOf))
theorem RTree.keep {w w' : World}{T:Nat}{S lv:Value}{F:List (List Nat×ByteArray)}(h:RTree w T S lv F)(hb:Below w.heap.size w w'):RTree w' T S lv F :=
 ⟨(hb.block T (aGe.1 h.box).1).trans h.box,h.list.imp id (fun h=>⟨h.1,h.2.keep hb⟩)⟩
theorem rRoot_any (T:Nat)(S lv:Value)(n:Nd)(w:World)(ht:RTree w T S lv (n.flat []))(hcb:CB n)(hs:∀z∈n.flat [],z.1.length≤128)(hl:(n.flat []).length≤100000000) :
  Calls Tryz.prog 22 #[.pointer (some ⟨T,0,none⟩)] w fun e w' => e=.returned (.string (rootOf n))∧Below w.heap.size w w' := by
 have c1:w.cell? ⟨T,1,none⟩=some lv:=cell_of_row _ _ 1 _ _ (0,0) ht.box
 by_cases hn:n=.nil
 ·subst hn
  obtain rfl:lv=.slice none 0 0:=by
   rcases ht.list with⟨_,h⟩|⟨h,_⟩
   ·exact h
   ·exact absurd rfl h
  have HN:=hide (fun W=>V.rNone_any W)
  have HE:Hid (V.root0=rootOf .nil):=by show _=_;kernel_rfl
  rw[HE.out] at HN
  clear ht
  go_enter Tryz.func22,Tryz.ntmps22
  go_wp2_with fail
  refine (HN.out _).mono ?_
  rintro e w1 ⟨rfl,hb1⟩
  go_wp2
  go_ret
  exact⟨rfl,hb1⟩
 ·have hr:V.ThRow (T+1) w lv ((n.flat []).map thOf):=by
   rcases ht.list with⟨h,_⟩|⟨_,h⟩
   ·exact absurd h (flat_ne hcb.wf hn [])
   ·exact h
  have hpos:0 < (n.flat []).length:=List.length_pos_iff.2 (flat_ne hcb.wf hn [])
  have HNd:=hide (node_tree n [] hcb hn hs hl (T+1) lv w hr)
  have HH:=hide (fun W=>V.rHash_any n.code W (by have:=code_size hcb;omega))
  have HE:Hid (hashOf n.code=rootOf n):=by
   show _=_
   cases n with
   | nil=>exact absurd rfl hn
   | _=>rfl
  rw[HE.out] at HH
  obtain⟨ao,cap,rfl⟩:=hr.shape
  have hlen:(((n.flat []).map thOf).length:Int)=((n.flat []).length:Int):=by simp
  have e0:(((n.flat []).length:Int) == 0)=false:=beq_false_of_ne (by omega)
  rw[List.length_map] at *
  unfold V.NodePost at HNd
  clear hr ht
  go_enter Tryz.func22,Tryz.ntmps22
  go_wp2_with fail
  refine HNd.out.mono ?_
  rintro e w1 ⟨mv,rfl,_,hb1⟩
  have HB1:=hide hb1
  clear hb1
  go_wp2_with fail
  refine (HH.out _).mono ?_
  rintro e w2 ⟨rfl,hb2⟩
  have HB2:=hide hb2
  clear hb2
  go_wp2
  go_ret
  exact⟨rfl,HB1.out.trans (HB2.out.mono HB1.out.size)⟩
theorem j_nibs:∀(l:List UInt8),V.nibs l=intsOf ((nibs l).map Int.toNat)
 | []=>rfl
 | b :: r=>by
   have ih:=j_nibs r
   simp only[V.nibs,nibs,intsOf,List.map_cons] at ih ⊢
   have h1:(((b.toNat:Int) / 16).toNat:Int)=(b.toNat:Int) / 16:=by omega
   have h2:(((b.toNat:Int) % 16).toNat:Int)=(b.toNat:Int) % 16:=by omega
   rw[ih,h1,h2]
theorem j_path (k:ByteArray):V.nibs k.data.toList=intsOf (pathN k):=j_nibs _
theorem path_len (k:ByteArray):(intsOf (pathN k)).length=2 * k.size:=by
 rw[←j_path,V.nibs_length];rfl
theorem halves_path (k:ByteArray)(W:World)(hk:k.size≤1000):Calls Tryz.prog 21 #[.string k] W fun e w' => ∃pa pc,e=.returned (.slice pa (intsOf (pathN k)).length pc)∧V.PSl w' pa pc (intsOf (pathN k))∧Below W.heap.size W w' := by
 refine (V.halves_any k W (by omega)).mono ?_
 rintro e w' ⟨v,rfl,ho,hb⟩
 rw[j_path,←path_len] at ho
 obtain⟨pa,pc,rfl,h⟩:=V.PSl.of_own ho
 exact⟨pa,pc,rfl,h,hb⟩
theorem ThRow.keepX {base:Nat}{w w' : World}{v:Value}{L:List V.Th}(h:V.ThRow base w v L)(hk:∀g,base≤g→g<w.heap.size→w'.heap[g]? = w.heap[g]?)(hi:V.KpI w w'):V.ThRow base w' v L:=by
 obtain⟨css,h1,h2⟩:=h
 exact⟨css,own_far h1 (fun g hg hl=>hk g (own_ge h1 (Nat.le_refl _) g hg) hl),h2.mono (fun _ _ h=>h.keep hi)⟩
theorem RTree.set {w0 w:World}{T:Nat}{S lv rv:Value}{F G:List (List Nat×ByteArray)}(h:RTree w0 T S lv F)(hb:Below w0.heap.size w0 w){B:Nat}(hB:T<B)(hr:V.ThRow B w rv (G.map thOf))(hG:G≠[]):RTree (w.setCell ⟨T,1,none⟩ rv) T S rv G:=by
 have hbx:=(h.keep hb).box
 refine⟨heap_setCell_same w T 1 _ 77 rv hbx,.inr ⟨hG,?_⟩⟩
 refine (ThRow.keepX hr (fun g hg _=>Below.heap_setCell _ _ _ _ (by show g≠T;omega)) (fun g cur hg=>?_)).base hB
 rw[Below.heap_setCell _ _ _ _ (fun e=>?_)]
 ·exact hg
 ·have e:g=T:=e
  subst e
  rw[hbx] at hg
  simp only[Option.some.injEq,Obj.cells.injEq] at hg
  exact absurd hg.2.1 (by decide)
theorem rPut_any (S lv:Value)(T:Nat)(F:List (List Nat×ByteArray))(k v:ByteArray)(w0:World)(h:RTree w0 T S lv F)(hs:∀z∈F,z.1.length≤128)(hno:∀z∈F,z.1≠pathN k)(hl:F.length≤100000000)(hk:k.size≤64)(hv:v.size≠0)(pa:Option Addr)(pc:Nat)(W:World)(hb:Below w0.heap.size w0 W)(hp:V.PSl W pa pc (intsOf (pathN k))) :
  Calls Tryz.prog 20 #[S,lv,.slice pa (intsOf (pathN k)).length pc,.string v] W fun e w' => ∃rv,e=.returned (.tuple #[rv,.int .i64 0])∧V.ThRow W.heap.size w' rv ((insF F (pathN k,v)).map thOf)∧Below W.heap.size W w' := by
 have hP:(intsOf (pathN k)).length≤100000:=by rw[path_len];omega
 have hj:=j_insL F (pathN k,v)
 rcases h.list with⟨rfl,rfl⟩|⟨hne,hr⟩
 ·have:=V.put_first S pa pc (intsOf (pathN k)) v W hp hP hv
  unfold V.PutPost at this
  change V.insL [] (intsOf (pathN k)) v=_ at hj
  rwa [hj] at this
 ·have hpos:0 < (F.map thOf).length:=by rw[List.length_map];exact List.length_pos_iff.2 hne
  have hr2:=hr.keep hb
  obtain⟨g,cap,_,_,rfl,_⟩:=hr2.cellAt 0 hpos
  have hany:(F.map thOf).any (V.atF (intsOf (pathN k)))=false:=by
   rw[List.any_eq_false]
   intro x hx
   obtain⟨z,hz,rfl⟩:=List.mem_map.1 hx
   simp only[V.atF,thOf,Bool.and_eq_true,not_and]
   intro _ h1
   exact hno z hz (intsOf_inj (of_decide_eq_true h1))
  have:=V.put_more S (T+1) g cap (F.map thOf) pa pc (intsOf (pathN k)) v W hr2 (short_map hs) (noHash_map _) hany hp hP (by rw[List.length_map];omega) hv
  unfold V.PutPost at this
  change V.insL (F.map thOf) (intsOf (pathN k)) v=_ at hj
  rwa [hj] at this
theorem halves_inj:∀(a b:List UInt8),(nibs a).map Int.toNat=(nibs b).map Int.toNat→a=b
 | [],[],_=>rfl
 | [],_ :: _,h=>by simp[nibs] at h
 | _ :: _,[],h=>by simp[nibs] at h
 | a :: x,b :: y,h=>by
   simp only[nibs,List.map_cons,List.cons.injEq] at h
   obtain⟨h1,h2,h3⟩:=h
   rw[halves_inj x y h3,show a=b from UInt8.toNat_inj.1 (by omega)]
theorem key_inj {a b:ByteArray}(h:pathN a=pathN b):a=b:=by
 have:=halves_inj _ _ h
 apply ByteArray.ext
 rw[←Array.toArray_toList (xs:=a.data),←Array.toArray_toList (xs:=b.data),this]
def Fs (ps:List Pr):List (List Nat×ByteArray):=ps.foldl (fun F p=>insF F (pathN p.1,p.2)) []
theorem Fs_snoc (ps:List Pr)(p:Pr):Fs (ps++[p])=insF (Fs ps) (pathN p.1,p.2):=by unfold Fs;rw[List.foldl_append];rfl
theorem Fs_mem (ps:List Pr)(x:List Nat×ByteArray):x∈Fs ps↔∃p∈ps,x=(pathN p.1,p.2):=by
 have:∀(ps:List Pr) (F:List (List Nat×ByteArray)),x∈ps.foldl (fun F p=>insF F (pathN p.1,p.2)) F↔x∈F∨∃p∈ps,x=(pathN p.1,p.2):=by
  intro ps
  induction ps with
  | nil=>intro F;simp
  | cons p ps ih =>
    intro F
    rw[List.foldl_cons,ih,insF_mem]
    simp only[List.mem_cons,exists_eq_or_imp]
    constructor
    ·rintro ((h|h)|h)
     ·exact .inr (.inl h)
     ·exact .inl h
     ·exact .inr (.inr h)
    ·rintro (h|h|h)
     ·exact .inl (.inr h)
     ·exact .inl (.inl h)
     ·exact .inr h
 have h:=this ps []
 simpa[Fs] using h
theorem Fs_len:∀(ps:List Pr),(Fs ps).length=ps.length:=fun ps=>by
 have:∀(ps:List Pr) (F:List (List Nat×ByteArray)),(ps.foldl (fun F p=>insF F (pathN p.1,p.2)) F).length=F.length+ps.length:=by
  intro ps
  induction ps with
  | nil=>intro F;simp
  | cons p ps ih=>intro F;rw[List.foldl_cons,ih,insF_len,List.length_cons];omega
 have h:=this ps []
 simpa[Fs] using h
theorem refPut_one (S lv:Value)(R:Nat)(F:List (List Nat×ByteArray))(k v:ByteArray)(g o cap:Nat)(w:World)(h:RTree w R S lv F)(hs:∀z∈F,z.1.length≤128)(hno:∀z∈F,z.1≠pathN k)(hl:F.length≤100000000)(hk:k.size≤64)(hv:v.size≠0)(hv2:v.size≤400)
  (hp0:w.cell? ⟨g,o,none⟩=some (.string k)) (hp1:w.cell? ⟨g,o+1,none⟩=some (.string v)) :
  Calls Tryz.prog 58 #[.pointer (some ⟨R,0,none⟩),.slice (some ⟨g,o,none⟩) 1 cap] w fun e w' => ∃rv W,e=.returned (.int .i64 0)∧w' = W.setCell ⟨R,1,none⟩ rv∧Below w.heap.size w W∧RTree w' R S rv (insF F (pathN k,v)):=by
 obtain⟨la,ln,lc,rfl⟩:∃la ln lc,lv=.slice la ln lc:=by
  rcases h.list with⟨_,h⟩|⟨_,h⟩
  ·exact⟨_,_,_,h⟩
  ·obtain⟨a,c,h⟩:=h.shape
   exact⟨_,_,_,h⟩
 have HR:=hide h
 have HPut:=hide (fun pa pc W hb hp=>rPut_any S (.slice la ln lc) R F k v w h hs hno hl hk hv pa pc W hb hp)
 have HHv:=hide (fun W=>halves_path k W (by omega))
 have z0:w.cell? ⟨R,0,none⟩=some S:=cell_of_row _ _ 0 _ _ (0,0) h.box
 have z1:w.cell? ⟨R,1,none⟩=some (.slice la ln lc):=cell_of_row _ _ 1 _ _ (0,0) h.box
 have HRl:Hid (R<w.heap.size):=(aGe.1 h.box).1
 have HX:Hid (∀W,Below w.heap.size w W→W.cell? ⟨g,o,none⟩=some (.string k)∧W.cell? ⟨g,o+1,none⟩=some (.string v)):=fun W hW=>⟨(hW.cell (p:=⟨g,o,none⟩) (World.block_lt_of_cell? w _ hp0)).trans hp0,(hW.cell (p:=⟨g,o+1,none⟩) (World.block_lt_of_cell? w _ hp1)).trans hp1⟩
 have k1:(k.size:Int)≤64:=by omega
 have v1:(v.size:Int)≤400:=by omega
 have HNe:Hid (insF F (pathN k,v)≠[]):=fun e=>by have:=insF_len F (pathN k,v);rw[e] at this;simp at this
 clear h hs hno hl hk hv hv2
 go_enter Tryz.func58,Tryz.ntmps58
 go_wp2_with fail
 go_loopw [5] (fun iv wr=>∃z:Int,iv=.int .i64 z∧(z=0∨z=1)∧wr=w) (fun iv _=>1 - (intOf iv).toNat)
 case atStart=>exact⟨0,rfl,.inl rfl,rfl⟩
 case round =>
  obtain⟨z,rfl,hz,rfl⟩:=hrel
  rcases hz with rfl|rfl
  ·go_wp2
   go_roundw
   case rel=>exact⟨1,rfl,.inr rfl,trivial⟩
   case measure=>simp[intOf]
  ·rename World=>A
   go_wp2_with fail
   go_loopw [6] (fun iv wr=>∃z:Int,iv=.int .i64 z∧(z=0∨z=1)∧wr=A) (fun iv _=>1 - (intOf iv).toNat)
   case atStart=>exact⟨0,rfl,.inl rfl,rfl⟩
   case round =>
    obtain⟨z,rfl,hz,rfl⟩:=hrel
    rcases hz with rfl|rfl
    ·go_wp2
     go_roundw
     case rel=>exact⟨1,rfl,.inr rfl,trivial⟩
     case measure=>simp[intOf]
    ·rename World=>A
     go_wp2_with fail
     go_loopw [7,8] (fun lv iv wr=>∃(i:Int) (n' c' : Nat) (la' : Option Addr),iv=.int .i64 i∧lv=.slice la' n' c' ∧ ((i=0∧la' = la∧n' = ln∧c' = lc∧wr=A)∨(∃B,i=1∧A.heap.size≤B∧V.ThRow B wr (.slice la' n' c') ((insF F (pathN k,v)).map thOf)∧Below A.heap.size A wr))) (fun _ iv _=>1 - (intOf iv).toNat)
     case atStart=>exact⟨0,_,_,_,rfl,rfl,.inl ⟨rfl,rfl,rfl,rfl,rfl⟩⟩
     case round =>
      obtain⟨i,n', c', la', rfl,rfl,hrel⟩:=hrel
      rcases hrel with⟨rfl,rfl,rfl,rfl,rfl⟩|⟨B,rfl,hB,hth,hbw⟩
      ·rename World=>A
       obtain⟨y0,y1⟩:=HX.out A (Below.refl _ _)
       go_wp2_with fail
       go_region_held3 (fun W=>W.cell? ⟨R,0,none⟩=some S∧W.cell? ⟨g,o,none⟩=some (.string k)∧W.cell? ⟨g,o+1,none⟩=some (.string v)) (first|go_keep|(simp[*])) ((first
        | (go_at_call 21;refine (HHv.out _).mono ?_;rintro e w3 ⟨pa,pc,rfl,hps,hb3⟩;have HB3:Hid (Below A.heap.size A w3):=(by first|exact hb3|exact (Below.refl _ _).drew.trans hb3);have HPs:=hide hps;obtain⟨y03,y13⟩:=HX.out w3 HB3.out;have z03:w3.cell? ⟨R,0,none⟩=some S:=cell_of_row _ _ 0 _ _ (0,0) (HR.out.keep HB3.out).box;clear hps hb3)
        | (go_at_call 20;refine (HPut.out _ _ _ HB3.out HPs.out).mono ?_;rintro e w4 ⟨rv,rfl,hr4,hb4⟩;obtain⟨ra,rc,rfl⟩:=hr4.shape;have HB4:Hid (Below A.heap.size A w4):=HB3.out.trans (hb4.mono HB3.out.size);have HR4:=hide hr4;obtain⟨y04,y14⟩:=HX.out w4 HB4.out;have z04:w4.cell? ⟨R,0,none⟩=some S:=cell_of_row _ _ 0 _ _ (0,0) (HR.out.keep HB4.out).box;clear hr4 hb4)))
       all_goals
        have h4:=HR4.out
        rw[List.length_map] at h4
        have HF4:=hide h4
        clear h4 HR4
        go_wp2
        go_roundw
        case rel=>exact⟨1,_,_,_,rfl,rfl,.inr ⟨w3.heap.size,rfl,HB3.out.size,HF4.out,HB4.out⟩⟩
        case measure=>simp[intOf]
      ·have HTh:=hide hth
       have HBw:=hide hbw
       have hbox:=(HR.out.keep hbw).box
       have c1:wr.cell? ⟨R,1,none⟩=some (.slice la ln lc):=cell_of_row _ _ 1 _ _ (0,0) hbox
       have f1:wr.frozen? ⟨R,1,none⟩=false:=frozen_of_row _ _ 1 _ _ hbox
       clear hth hbw hbox
       go_wp2
       go_ret
       exact⟨_,wr,rfl,rfl,HBw.out,HR.out.set HBw.out (B:=B) (by have:=HRl.out;omega) HTh.out HNe.out⟩
theorem refGet_one (S lv:Value)(R:Nat)(k v:ByteArray)(w:World)(h:RTree w R S lv [(pathN k,v)])(hk:k.size≤64) :
  Calls Tryz.prog 35 #[.pointer (some ⟨R,0,none⟩),.string k] w fun e w' => e=.returned (.tuple #[.string v,.int .i64 0])∧Below w.heap.size w w' := by
 have hth:V.ThRow (R+1) w lv [thOf (pathN k,v)]:=by
  rcases h.list with⟨h,_⟩|⟨_,h⟩
  ·cases h
  ·exact h
 obtain⟨la,lc,rfl⟩:=hth.shape
 have hsh:V.Short [thOf (pathN k,v)]:=short_map (F:=[(pathN k,v)]) (fun z hz=>by
  obtain rfl:z=(pathN k,v):=by simpa using hz
  simp only[pathN_length];omega)
 have hnh:V.NoHash [thOf (pathN k,v)]:=noHash_map [(pathN k,v)]
 have hP:(intsOf (pathN k)).length≤100000:=by rw[path_len];omega
 have HR:=hide h
 have HAl:=hide (fun pa pc W (hW:Below w.heap.size w W) hp=>V.along_plain S (.slice la 1 lc) [thOf (pathN k,v)] (R+1) pa pc (intsOf (pathN k)) W (hth.keep hW) hsh hnh hp hP (by show (1:Nat)≤10000000000;omega))
 have HAt:=hide (fun pa pc W (hW:Below w.heap.size w W) hp=>V.at_any (R+1) (.slice la 1 lc) [thOf (pathN k,v)] pa pc (intsOf (pathN k)) W (hth.keep hW) hsh (by show (1:Nat)≤10000000000;omega) hp hP)
 have hat:V.atR [thOf (pathN k,v)] (intsOf (pathN k))=0:=by
  have e:V.atF (intsOf (pathN k)) (thOf (pathN k,v))=true:=by
   unfold V.atF thOf
   rw[Bool.and_eq_true]
   exact⟨rfl,decide_eq_true rfl⟩
  simp[V.atR,e,List.findIdx_cons]
 rw[hat] at HAt
 have HHv:=hide (fun W=>halves_path k W (by omega))
 have HC:Hid (∀W,Below w.heap.size w W→∃g,la=some ⟨g,0,none⟩∧W.cell? ⟨g,1,none⟩=some (.string v)):=fun W hW=>by
  obtain⟨g,cap,pa,pc,h1,h2,h3,h4,_⟩:=(hth.keep hW).cellAt 0 (by simp)
  obtain⟨rfl,_⟩:la=some ⟨g,0,none⟩∧lc=cap:=by simpa using h1
  exact⟨g,rfl,by simpa[thOf] using h4⟩
 have k1:(k.size:Int)≤64:=by omega
 have HZ:Hid (∀W,Below w.heap.size w W→W.cell? ⟨R,0,none⟩=some S∧W.cell? ⟨R,1,none⟩=some (.slice la 1 lc)):=fun W hW=>⟨cell_of_row _ _ 0 _ _ (0,0) (h.keep hW).box,cell_of_row _ _ 1 _ _ (0,0) (h.keep hW).box⟩
 clear h hth hsh hnh hP hk hat
 simp only[List.length_cons,List.length_nil] at *
 go_enter Tryz.func35,Tryz.ntmps35
 go_wp2_with fail
 refine (HHv.out _).mono ?_
 rintro e w1 ⟨pa,pc,rfl,hps,hb1⟩
 have HB1:=hide hb1
 have HPs:=hide hps
 obtain⟨z0,z1⟩:=HZ.out w1 hb1
 clear hps hb1
 go_wp2_with fail
 go_region_held3 (fun W=>W.cell? ⟨R,0,none⟩=some S∧W.cell? ⟨R,1,none⟩=some (.slice la 1 lc)) (first|go_keep|(simp[*])) ((go_at_call 49;refine (HAl.out _ _ _ (by first|exact HB1.out.drew|exact HB1.out) (by first|exact HPs.out|exact HPs.out.keep (V.KpI.of_below (Below.refl _ _).drew))).mono ?_;rintro e w3 ⟨rfl,hb3⟩;have HB3:Hid (Below w1.heap.size w1 w3):=(by first|exact hb3|exact (Below.refl _ _).drew.trans hb3);have HB3w:Hid (Below w.heap.size w w3):=HB1.out.trans (HB3.out.mono HB1.out.size);obtain⟨z03,z13⟩:=HZ.out w3 HB3w.out;clear hb3))
 all_goals
  have HAt3:=hide (HAt.out pa pc w3 HB3w.out (HPs.out.keep (V.KpI.of_below HB3.out)))
  go_wp2_with fail
  refine HAt3.out.mono ?_
  rintro e w4 ⟨rfl,hb4⟩
  have HB4:Hid (Below w.heap.size w w4):=HB3w.out.trans (hb4.mono HB3w.out.size)
  obtain⟨g,rfl,y1⟩:=HC.out w4 HB4.out
  clear hb4
  go_wp2
  go_ret2
  exact⟨rfl,HB4.out⟩
theorem RTree.ex {X:Nat→Prop}{w w' : World}{T:Nat}{S lv:Value}{F:List (List Nat×ByteArray)}(h:RTree w T S lv F)(hx:Ex X w w')(hs:∀(k:Nat) (cs:Array Value) (t:TypeId) (fr:Nat×Nat),X k→w.heap[k]? = some (.cells cs t fr)→t≠77∧t≠118∧t≠3):RTree w' T S lv F:=by
 have same:∀(k:Nat) (cs:Array Value) (t:TypeId) (fr:Nat×Nat),w.heap[k]? = some (.cells cs t fr)→(t=77∨t=118∨t=3)→w'.heap[k]? = some (.cells cs t fr):=fun k cs t fr hk ht=>by
  rw[hx.block k (aGe.1 hk).1 (fun hX=>by
   obtain⟨h1,h2,h3⟩:=hs k cs t fr hX hk
   rcases ht with ht|ht|ht
   ·exact h1 ht
   ·exact h2 ht
   ·exact h3 ht)]
  exact hk
 refine⟨same _ _ _ _ h.box (.inl rfl),h.list.imp id (fun h=>⟨h.1,?_⟩)⟩
 obtain⟨css,h1,h2⟩:=h.2
 refine⟨css,own_far h1 (fun g hg hl=>?_),h2.mono (fun _ _ h=>h.keep (fun g cur hg=>same g _ _ _ hg (.inr (.inr rfl))))⟩
 obtain⟨_,cur,hc⟩:=ownsRow_type h1 g hg
 rw[hc]
 exact same g _ _ _ hc (.inr (.inl rfl))
theorem TreeAt.ex {Hk:Nd→ByteArray→Prop}{ok:Nat→Prop}{X:Nat→Prop}{w w' : World}{T:Nat}{st:Value}{n:Nd}(h:TreeAt Hk ok w T st n)(hx:Ex X w w')(hT:¬X T)(hok:∀k,ok k→¬X k):TreeAt Hk ok w' T st n:=by
 have hl:=h.lt
 obtain⟨u,h1,h2⟩:=h.held
 exact⟨⟨u,(hx.block T hl hT).trans h1,NdAt.keepIn (fun b hb hbl=>hx.block b hbl (hok b hb)) n u h2⟩,fun k hk=>⟨Nat.lt_of_lt_of_le (h.blk k hk).1 hx.size,(h.blk k hk).2⟩⟩
theorem samePairs_any (ao bo:Option Addr)(ca cb:Nat)(L:List Pr)(w:World)(ha:Prs w ao L)(hb:Prs w bo L)(hl:L.length≤1000000) :
  Calls Tryz.prog 38 #[.slice ao L.length ca,.slice bo L.length cb] w fun e w' => e=.returned (.bool true)∧Below w.heap.size w w' := by
 have HA:=hide ha
 have HB:=hide hb
 clear ha hb
 go_enter Tryz.func38,Tryz.ntmps38
 go_wp2_with fail
 go_loopw [5] (fun iv wr=>∃i:Nat,i≤L.length∧iv=.int .i64 (i:Int)∧Below w.heap.size w wr) (fun iv _=>L.length - (intOf iv).toNat)
 case atStart=>exact⟨0,by omega,rfl,Below.refl _ _⟩
 case round =>
  obtain⟨i,hi,rfl,hbw⟩:=hrel
  have HBW:=hide hbw
  clear hbw
  have j0:(0:Int)≤(i:Int):=by omega
  by_cases hil:i<L.length
  ·have j1:(i:Int)<(L.length:Int):=by omega
   obtain⟨g1,o1,rfl,x1,x2⟩:=HA.out.keep HBW.out i hil
   obtain⟨g2,o2,rfl,y1,y2⟩:=HB.out.keep HBW.out i hil
   generalize L.getD i pr0=t at *
   go_wp2
   go_quiet (fail)
   go_wp2
   go_roundw
   case rel=>exact⟨i+1,by omega,by go_num,below_drewN HBW.out _⟩
   case measure=>simp[intOf];omega
  ·obtain rfl:i=L.length:=by omega
   go_wp2
   go_ret
   exact⟨rfl,HBW.out⟩
theorem infoPr:(Tryz.prog.info? 33).map (fun i=>(i.zero,i.size,i.bytes))=some (some (.agg #[.string ⟨#[]⟩,.string ⟨#[]⟩]),2,32):=by kernel_rfl
theorem make_pairs2 (w:World):(Instr.makeSlice 27 (.int .i64 2) (.int .i64 2)).run Tryz.prog w=.ok (.slice (some ⟨w.heap.size,0,none⟩) 2 2) (w.alloc (.cells #[.string ⟨#[]⟩,.string ⟨#[]⟩,.string ⟨#[]⟩,.string ⟨#[]⟩] 33)):=by
 obtain⟨i0,hi,hz0,hz1,hz2⟩:=info_parts infoPr
 have h:=run_make (P:=Tryz.prog) w 27 33 i0 (.agg #[.string ⟨#[]⟩,.string ⟨#[]⟩]) Tryz.underlying27 hi hz0 .i64 .i64 2 2 (by omega) (by omega) (by rw[hz2];omega) (by omega)
 rw[show (#[.string ⟨#[]⟩,.string ⟨#[]⟩,.string ⟨#[]⟩,.string ⟨#[]⟩]:Array Value)=madeCells #[.string ⟨#[]⟩,.string ⟨#[]⟩] 4 from by kernel_rfl]
 simpa[hz1,Value.cells] using h
theorem put_copy (T R P:Nat)(k v:ByteArray)(w:World)(HPl:Hid (P<w.heap.size))(HP:Hid (w.heap[P]? = some (.cells #[.string k,.string v] 33 (0,0)))) :
  ∃W1,(Builtin.copy_ #[27,27] 3 #[.slice (some ⟨w.heap.size+1+1+1,0,none⟩) 2 2,.slice (some ⟨P,0,none⟩) 1 1]).run Tryz.prog ((((w.alloc (.cells #[.pointer (some ⟨T,0,none⟩),.pointer (some ⟨R,0,none⟩)] 51)).alloc (.cells #[.int .i64 1,.int .i64 0,.string ⟨#[]⟩,.int .i64 0,.slice (some ⟨P,0,none⟩) 1 1,.slice none 0 0] 40)).alloc (.cells #[.string lentS,.string ⟨#[]⟩] 33)).alloc (.cells #[.string ⟨#[]⟩,.string ⟨#[]⟩,.string ⟨#[]⟩,.string ⟨#[]⟩] 33))=.ok (.int .i64 1) W1 ∧
   W1.heap[w.heap.size]? = some (.cells #[.pointer (some ⟨T,0,none⟩),.pointer (some ⟨R,0,none⟩)] 51 (0,0))∧W1.heap[w.heap.size+1]? = some (.cells #[.int .i64 1,.int .i64 0,.string ⟨#[]⟩,.int .i64 0,.slice (some ⟨P,0,none⟩) 1 1,.slice none 0 0] 40 (0,0)) ∧
   W1.heap[w.heap.size+1+1]? = some (.cells #[.string lentS,.string ⟨#[]⟩] 33 (0,0))∧W1.heap[w.heap.size+1+1+1]? = some (.cells #[.string k,.string v,.string ⟨#[]⟩,.string ⟨#[]⟩] 33 (0,0))∧Below w.heap.size w W1:=by
 have hb:Below w.heap.size w ((((w.alloc (.cells #[.pointer (some ⟨T,0,none⟩),.pointer (some ⟨R,0,none⟩)] 51)).alloc (.cells #[.int .i64 1,.int .i64 0,.string ⟨#[]⟩,.int .i64 0,.slice (some ⟨P,0,none⟩) 1 1,.slice none 0 0] 40)).alloc (.cells #[.string lentS,.string ⟨#[]⟩] 33)).alloc (.cells #[.string ⟨#[]⟩,.string ⟨#[]⟩,.string ⟨#[]⟩,.string ⟨#[]⟩] 33)) :=
  (((below_alloc w _).alloc (by simp) _).alloc (by simp;omega) _).alloc (by simp;omega) _
 have y3:=heap_alloc_new (((w.alloc (.cells #[.pointer (some ⟨T,0,none⟩),.pointer (some ⟨R,0,none⟩)] 51)).alloc (.cells #[.int .i64 1,.int .i64 0,.string ⟨#[]⟩,.int .i64 0,.slice (some ⟨P,0,none⟩) 1 1,.slice none 0 0] 40)).alloc (.cells #[.string lentS,.string ⟨#[]⟩] 33)) (.cells #[.string ⟨#[]⟩,.string ⟨#[]⟩,.string ⟨#[]⟩,.string ⟨#[]⟩] 33)
 have y2:=(Below.heap_alloc (((w.alloc (.cells #[.pointer (some ⟨T,0,none⟩),.pointer (some ⟨R,0,none⟩)] 51)).alloc (.cells #[.int .i64 1,.int .i64 0,.string ⟨#[]⟩,.int .i64 0,.slice (some ⟨P,0,none⟩) 1 1,.slice none 0 0] 40)).alloc (.cells #[.string lentS,.string ⟨#[]⟩] 33)) (.cells #[.string ⟨#[]⟩,.string ⟨#[]⟩,.string ⟨#[]⟩,.string ⟨#[]⟩] 33) _ (by simp)).trans (heap_alloc_new ((w.alloc (.cells #[.pointer (some ⟨T,0,none⟩),.pointer (some ⟨R,0,none⟩)] 51)).alloc (.cells #[.int .i64 1,.int .i64 0,.string ⟨#[]⟩,.int .i64 0,.slice (some ⟨P,0,none⟩) 1 1,.slice none 0 0] 40)) (.cells #[.string lentS,.string ⟨#[]⟩] 33))
 have y1:=((Below.heap_alloc (((w.alloc (.cells #[.pointer (some ⟨T,0,none⟩),.pointer (some ⟨R,0,none⟩)] 51)).alloc (.cells #[.int .i64 1,.int .i64 0,.string ⟨#[]⟩,.int .i64 0,.slice (some ⟨P,0,none⟩) 1 1,.slice none 0 0] 40)).alloc (.cells #[.string lentS,.string ⟨#[]⟩] 33)) (.cells #[.string ⟨#[]⟩,.string ⟨#[]⟩,.string ⟨#[]⟩,.string ⟨#[]⟩] 33) _ (by simp)).trans (Below.heap_alloc ((w.alloc (.cells #[.pointer (some ⟨T,0,none⟩),.pointer (some ⟨R,0,none⟩)] 51)).alloc (.cells #[.int .i64 1,.int .i64 0,.string ⟨#[]⟩,.int .i64 0,.slice (some ⟨P,0,none⟩) 1 1,.slice none 0 0] 40)) (.cells #[.string lentS,.string ⟨#[]⟩] 33) _ (by simp))).trans (heap_alloc_new (w.alloc (.cells #[.pointer (some ⟨T,0,none⟩),.pointer (some ⟨R,0,none⟩)] 51)) (.cells #[.int .i64 1,.int .i64 0,.string ⟨#[]⟩,.int .i64 0,.slice (some ⟨P,0,none⟩) 1 1,.slice none 0 0] 40))
 have y0:=((Below.heap_alloc (((w.alloc (.cells #[.pointer (some ⟨T,0,none⟩),.pointer (some ⟨R,0,none⟩)] 51)).alloc (.cells #[.int .i64 1,.int .i64 0,.string ⟨#[]⟩,.int .i64 0,.slice (some ⟨P,0,none⟩) 1 1,.slice none 0 0] 40)).alloc (.cells #[.string lentS,.string ⟨#[]⟩] 33)) (.cells #[.string ⟨#[]⟩,.string ⟨#[]⟩,.string ⟨#[]⟩,.string ⟨#[]⟩] 33) w.heap.size (by simp;omega)).trans ((Below.heap_alloc ((w.alloc (.cells #[.pointer (some ⟨T,0,none⟩),.pointer (some ⟨R,0,none⟩)] 51)).alloc (.cells #[.int .i64 1,.int .i64 0,.string ⟨#[]⟩,.int .i64 0,.slice (some ⟨P,0,none⟩) 1 1,.slice none 0 0] 40)) (.cells #[.string lentS,.string ⟨#[]⟩] 33) w.heap.size (by simp;omega)).trans (Below.heap_alloc (w.alloc (.cells #[.pointer (some ⟨T,0,none⟩),.pointer (some ⟨R,0,none⟩)] 51)) (.cells #[.int .i64 1,.int .i64 0,.string ⟨#[]⟩,.int .i64 0,.slice (some ⟨P,0,none⟩) 1 1,.slice none 0 0] 40) w.heap.size (by simp)))).trans (heap_alloc_new w (.cells #[.pointer (some ⟨T,0,none⟩),.pointer (some ⟨R,0,none⟩)] 51))
 simp only[World.size_alloc] at y1 y2 y3
 generalize ((((w.alloc (.cells #[.pointer (some ⟨T,0,none⟩),.pointer (some ⟨R,0,none⟩)] 51)).alloc (.cells #[.int .i64 1,.int .i64 0,.string ⟨#[]⟩,.int .i64 0,.slice (some ⟨P,0,none⟩) 1 1,.slice none 0 0] 40)).alloc (.cells #[.string lentS,.string ⟨#[]⟩] 33)).alloc (.cells #[.string ⟨#[]⟩,.string ⟨#[]⟩,.string ⟨#[]⟩,.string ⟨#[]⟩] 33))=W at *
 have hpW:W.heap[P]? = some (.cells #[.string k,.string v] 33 (0,0)):=(hb.block P HPl.out).trans HP.out
 have hr:=run_copy_row2 (P:=Tryz.prog) W 27 27 3 33 (w.heap.size+1+1+1) 0 2 2 ⟨P,0,none⟩ 1 1 #[.string ⟨#[]⟩,.string ⟨#[]⟩,.string ⟨#[]⟩,.string ⟨#[]⟩] 33 [.string k,.string v] Tryz.underlying27 sizePair y3 rfl (World.news_of_block (cs:=#[.string k,.string v]) hpW) (by simp) (by simp[Value.oneCell'])
 refine⟨_,hr,?_,?_,?_,setRow_heap W _ _ _ _ _ y3,?_⟩
 ·rw[setRow_other];exact y0;omega
 ·rw[setRow_other];exact y1;omega
 ·rw[setRow_other];exact y2;omega
 ·exact⟨hb.os,hb.tape,hb.output,by rw[setRow_size];exact hb.size,fun j hj=>by rw[setRow_other _ _ _ _ (by omega)];exact hb.block j hj⟩
theorem changes_put (B T R P:Nat)(st S:Value)(k v:ByteArray)(w:World)(hA:TreeAt HkC (fun _=>False) w T st .nil)(hR:RTree w R S (.slice none 0 0) [])(hp:w.heap[P]? = some (.cells #[.string k,.string v] 33 (0,0)))(hk:k.size≤64)(hv:v.size≠0)(hv2:v.size≤400) :
  Calls Tryz.prog 27 #[.pointer (some ⟨B,0,none⟩),.agg #[ptr T,ptr R],.agg #[.int .i64 1,.int .i64 0,.string ⟨#[]⟩,.int .i64 0,.slice (some ⟨P,0,none⟩) 1 1,.slice none 0 0]] w fun e w' =>
   e=.returned (.bool true)∧Ex (fun j=>j=T∨j=R) w w' ∧ TreeAt HkC (fun j=>w.heap.size≤j∧j<w'.heap.size) w' T st (setAll .nil [(k,v)])∧∃rv,RTree w' R S rv [(pathN k,v)]:=by
 have HA:=hide hA
 have HR:=hide hR
 have HP:=hide hp
 have HHk:=hide hk
 have HHv:=hide hv
 have HHw:=hide hv2
 have HT:Hid (T<w.heap.size):=hA.lt
 have HRl:Hid (R<w.heap.size):=(aGe.1 hR.box).1
 have HPl:Hid (P<w.heap.size):=(aGe.1 hp).1
 clear hA hR hp hk hv hv2
 unfold ptr
 obtain⟨W1,hcopy,x4,x5,x8,xX,hb1⟩:=put_copy T R P k v w HPl HP
 have hmk:=make_pairs2
 unfold lentS at hcopy x8
 have HB1:=hide hb1
 have HX:=hide (And.intro x4 (And.intro x5 (And.intro x8 xX)))
 have c40:W1.cell? ⟨w.heap.size,0,none⟩=some (.pointer (some ⟨T,0,none⟩)):=cell_of_row _ _ 0 _ _ (0,0) x4
 have c80:W1.cell? ⟨w.heap.size+1+1,0,none⟩=some (.string ⟨#[108,101,110,116]⟩):=cell_of_row _ _ 0 _ _ (0,0) x8
 have c81:W1.cell? ⟨w.heap.size+1+1,1,none⟩=some (.string ⟨#[]⟩):=cell_of_row _ _ 1 _ _ (0,0) x8
 have cX2:W1.cell? ⟨w.heap.size+1+1+1,2,none⟩=some (.string ⟨#[]⟩):=cell_of_row _ _ 2 _ _ (0,0) xX
 have cX3:W1.cell? ⟨w.heap.size+1+1+1,3,none⟩=some (.string ⟨#[]⟩):=cell_of_row _ _ 3 _ _ (0,0) xX
 have fX:∀j,W1.frozen? ⟨w.heap.size+1+1+1,j,none⟩=false:=fun j=>frozen_of_row _ _ j _ _ xX
 clear x4 x5 x8 xX hb1
 go_enter Tryz.func27,Tryz.ntmps27
 go_wp2_with fail
 have hX2:((W1.setCell ⟨w.heap.size+1+1+1,2,none⟩ (.string ⟨#[108,101,110,116]⟩)).setCell ⟨w.heap.size+1+1+1,3,none⟩ (.string ⟨#[]⟩)).heap[w.heap.size+1+1+1]? = some (.cells #[.string k,.string v,.string ⟨#[108,101,110,116]⟩,.string ⟨#[]⟩] 33 (0,0)) :=
  heap_setCell_same _ _ 3 _ 33 _ (heap_setCell_same W1 _ 2 _ 33 _ HX.out.2.2.2)
 have hB2:Below w.heap.size w ((W1.setCell ⟨w.heap.size+1+1+1,2,none⟩ (.string ⟨#[108,101,110,116]⟩)).setCell ⟨w.heap.size+1+1+1,3,none⟩ (.string ⟨#[]⟩)):=below_set2 HB1.out (by omega) _ _ _ _
 have hO2:∀j,j≠w.heap.size+1+1+1→((W1.setCell ⟨w.heap.size+1+1+1,2,none⟩ (.string ⟨#[108,101,110,116]⟩)).setCell ⟨w.heap.size+1+1+1,3,none⟩ (.string ⟨#[]⟩)).heap[j]? = W1.heap[j]?:=fun j hj=>by
  rw[heap_setCell_other _ _ _ _ (by exact hj),heap_setCell_other _ _ _ _ (by exact hj)]
 have h42:=(hO2 w.heap.size (by omega)).trans HX.out.1
 have h52:=(hO2 (w.heap.size+1) (by omega)).trans HX.out.2.1
 have h82:=(hO2 (w.heap.size+1+1) (by omega)).trans HX.out.2.2.1
 have HF2:=hide (And.intro h42 (And.intro h52 (And.intro h82 hX2)))
 have HB2:=hide hB2
 clear hX2 hB2 hO2 h42 h52 h82 c40 c80 c81 cX2 cX3 fX HX HB1 hcopy hmk
 generalize ((W1.setCell ⟨w.heap.size+1+1+1,2,none⟩ (.string ⟨#[108,101,110,116]⟩)).setCell ⟨w.heap.size+1+1+1,3,none⟩ (.string ⟨#[]⟩))=W2 at *
 generalize hX:w.heap.size+1+1+1=X at *
 generalize h8:w.heap.size+1+1=a8 at *
 generalize h5:w.heap.size+1=a5 at *
 have HN:Hid (a5=w.heap.size+1∧a8=w.heap.size+2∧X=w.heap.size+3):=by refine⟨?_,?_,?_⟩<;>omega
 clear hX h8 h5
 have HPut:=hide (fun W (hW:Below w.heap.size w W) (hm:Prs W (some ⟨X,0,none⟩) [(k,v)])=>cPut_any HkC HkC.ne (fun _=>False) T st .nil (some ⟨X,0,none⟩) 2 [(k,v)] W (HA.out.keep hW) TOk.nil hm (by intro p hp;simp at hp;rw[hp];exact⟨HHk.out,HHw.out⟩) (by simp))
 have HPrs:Hid (∀W:World,W.heap[X]? = W2.heap[X]?→Prs W (some ⟨X,0,none⟩) [(k,v)]):=fun W hW i hi=>by
  obtain rfl:i=0:=by simpa using hi
  have hx:=hW.trans HF2.out.2.2.2
  exact⟨X,0,rfl,cell_of_row _ _ 0 _ _ (0,0) hx,cell_of_row _ _ 1 _ _ (0,0) hx⟩
 have c40:W2.cell? ⟨w.heap.size,0,none⟩=some (.pointer (some ⟨T,0,none⟩)):=cell_of_row _ _ 0 _ _ (0,0) HF2.out.1
 unfold ptr at HPut
 go_region_held3 (fun W=>W.cell? ⟨w.heap.size,0,none⟩=some (.pointer (some ⟨T,0,none⟩))) (first|go_keep|(simp[*])) ((go_at_call 10;refine (HPut.out W2.drew HB2.out.drew (HPrs.out W2.drew rfl)).mono ?_;rintro e w3 ⟨rfl,h1,h2⟩;have HO3:=hide h1;have HT3:=hide h2;have c403:w3.cell? ⟨w.heap.size,0,none⟩=some (.pointer (some ⟨T,0,none⟩)):=(by rw[World.cell?_of_block (h1.block _ (aGe.1 HF2.out.1).1 (by have:=HT.out;simp;omega))];exact c40);clear h1 h2))
 have HS3:Hid (W2.heap.size≤w3.heap.size):=HO3.out.size
 have HK3:Hid (∀j,j<W2.heap.size→j≠T→w3.heap[j]? = W2.heap[j]?):=fun j hj hne=>HO3.out.block j hj (by simpa using hne)
 have hlX:X<W2.heap.size:=(aGe.1 HF2.out.2.2.2).1
 have HlX:=hide hlX
 have h43:w3.heap[w.heap.size]? = _:=(HK3.out _ (by have:=HN.out;omega) (by have:=HT.out;omega)).trans HF2.out.1
 have h53:w3.heap[a5]? = _:=(HK3.out _ (by have:=HN.out;omega) (by have:=HN.out;have:=HT.out;omega)).trans HF2.out.2.1
 have h83:w3.heap[a8]? = _:=(HK3.out _ (by have:=HN.out;omega) (by have:=HN.out;have:=HT.out;omega)).trans HF2.out.2.2.1
 have hX3:w3.heap[X]? = _:=(HK3.out _ hlX (by have:=HN.out;have:=HT.out;omega)).trans HF2.out.2.2.2
 have hE3:Ex (fun j=>j=T) w w3:=by
  have hb:=HB2.out
  refine⟨HO3.out.os.trans hb.os,HO3.out.tape.trans hb.tape,HO3.out.output.trans hb.output,Nat.le_trans hb.size HS3.out,fun j hj hne=>?_⟩
  rw[HK3.out j (Nat.lt_of_lt_of_le hj hb.size) hne]
  exact hb.block j hj
 have htT:∀(j:Nat) (cs:Array Value) (t:TypeId) (fr:Nat×Nat),j=T→w.heap[j]? = some (.cells cs t fr)→t=71:=fun j cs t fr hj hc=>by
  obtain⟨u,h1,_⟩:=HA.out.held
  rw[hj,h1] at hc
  injection hc with hc
  injection hc with _ hc _
  exact hc.symm
 have hR3:RTree w3 R S (.slice none 0 0) []:=HR.out.ex hE3 (fun j cs t fr hj hc=>by
  rw[htT j cs t fr hj hc]
  exact⟨by decide,by decide,by decide⟩)
 have hP3:w3.heap[P]? = some (.cells #[.string k,.string v] 33 (0,0)):=by
  rw[hE3.block P HPl.out (fun e=>absurd (htT P _ _ _ e HP.out) (by decide))];exact HP.out
 have HRef:=hide (refPut_one S (.slice none 0 0) R [] k v P 0 1 w3 hR3 (by simp) (by simp) (by simp) HHk.out HHv.out HHw.out (cell_of_row _ _ 0 _ _ (0,0) hP3) (cell_of_row _ _ 1 _ _ (0,0) hP3))
 have c413:w3.cell? ⟨w.heap.size,1,none⟩=some (.pointer (some ⟨R,0,none⟩)):=cell_of_row _ _ 1 _ _ (0,0) h43
 have c543:w3.cell? ⟨a5,4,none⟩=some (.slice (some ⟨P,0,none⟩) 1 1):=cell_of_row _ _ 4 _ _ (0,0) h53
 have HF3:=hide (And.intro h43 (And.intro h53 (And.intro h83 (And.intro hX3 hP3))))
 have HE3:=hide hE3
 have HTT:=hide htT
 clear h43 h53 h83 hX3 hE3 htT hR3 hP3 c40 c403 hlX
 go_wp2_with fail
 refine HRef.out.mono ?_
 rintro e w4 ⟨rv,W4,rfl,rfl,hb4,hr4⟩
 have HB4:=hide hb4
 have HR4:=hide hr4
 clear hb4 hr4
 have hE4:Ex (fun j=>j=R) w3 (W4.setCell ⟨R,1,none⟩ rv):=(Ex.of_below (X:=fun j=>j=R) HB4.out).set (p:=⟨R,1,none⟩) (.inl rfl) rv
 have hl3:=HB2.out.size
 have s3:=HS3.out
 have hRn:R≠P:=fun e=>by
  have h1:=HR.out.box
  rw[e,HP.out] at h1
  injection h1 with h1
  injection h1 with _ h1 _
  exact absurd h1 (by decide)
 have hh44:(W4.setCell ⟨R,1,none⟩ rv).heap[w.heap.size]? = _:=(hE4.block _ (aGe.1 HF3.out.1).1 (by have:=HRl.out;show _≠R;omega)).trans HF3.out.1
 have hh54:(W4.setCell ⟨R,1,none⟩ rv).heap[a5]? = _:=(hE4.block _ (aGe.1 HF3.out.2.1).1 (by have:=HRl.out;have:=HN.out;show _≠R;omega)).trans HF3.out.2.1
 have hh84:(W4.setCell ⟨R,1,none⟩ rv).heap[a8]? = _:=(hE4.block _ (aGe.1 HF3.out.2.2.1).1 (by have:=HRl.out;have:=HN.out;show _≠R;omega)).trans HF3.out.2.2.1
 have hhX4:(W4.setCell ⟨R,1,none⟩ rv).heap[X]? = _:=(hE4.block _ (aGe.1 HF3.out.2.2.2.1).1 (by have:=HRl.out;have:=HN.out;show _≠R;omega)).trans HF3.out.2.2.2.1
 have hhP4:(W4.setCell ⟨R,1,none⟩ rv).heap[P]? = _:=(hE4.block _ (aGe.1 HF3.out.2.2.2.2).1 (by show P≠R;exact Ne.symm hRn)).trans HF3.out.2.2.2.2
 have HE4:=hide hE4
 clear hE4 hl3 s3 hRn HB4
 generalize (W4.setCell ⟨R,1,none⟩ rv)=w4 at *
 have c54:w4.cell? ⟨a5,4,none⟩=some (.slice (some ⟨P,0,none⟩) 1 1):=cell_of_row _ _ 4 _ _ (0,0) hh54
 have c80:w4.cell? ⟨a8,0,none⟩=some (.string ⟨#[108,101,110,116]⟩):=cell_of_row _ _ 0 _ _ (0,0) hh84
 have c81:w4.cell? ⟨a8,1,none⟩=some (.string ⟨#[]⟩):=cell_of_row _ _ 1 _ _ (0,0) hh84
 have cX2:w4.cell? ⟨X,2,none⟩=some (.string ⟨#[108,101,110,116]⟩):=cell_of_row _ _ 2 _ _ (0,0) hhX4
 have cX3:w4.cell? ⟨X,3,none⟩=some (.string ⟨#[]⟩):=cell_of_row _ _ 3 _ _ (0,0) hhX4
 have HSame:Hid (Calls Tryz.prog 38 #[.slice (some ⟨X,0,none⟩) 1 2,.slice (some ⟨P,0,none⟩) 1 1] w4.drew fun e w' => e=.returned (.bool true)∧Below w4.heap.size w4.drew w') :=
  samePairs_any (some ⟨X,0,none⟩) (some ⟨P,0,none⟩) 2 1 [(k,v)] w4.drew
   (fun i hi=>by
     obtain rfl:i=0:=by simpa using hi
     exact⟨X,0,rfl,cell_of_row _ _ 0 _ _ (0,0) hhX4,cell_of_row _ _ 1 _ _ (0,0) hhX4⟩)
   (fun i hi=>by
     obtain rfl:i=0:=by simpa using hi
     exact⟨P,0,rfl,cell_of_row _ _ 0 _ _ (0,0) hhP4,cell_of_row _ _ 1 _ _ (0,0) hhP4⟩) (by simp)
 have HF4:=hide (And.intro hh84 (And.intro hhX4 hh54))
 clear hh44 hh54 hh84 hhX4 hhP4 HPut HPrs HRef
 have HKc:Hid (∀w5:World,Below w4.heap.size w4.drew w5→w5.cell? ⟨a5,4,none⟩=some (.slice (some ⟨P,0,none⟩) 1 1)∧w5.cell? ⟨a8,0,none⟩=some (.string ⟨#[108,101,110,116]⟩)∧w5.cell? ⟨a8,1,none⟩=some (.string ⟨#[]⟩)∧w5.cell? ⟨X,2,none⟩=some (.string ⟨#[108,101,110,116]⟩)∧w5.cell? ⟨X,3,none⟩=some (.string ⟨#[]⟩)):=fun w5 hb =>
  ⟨(hb.cell (p:=⟨a5,4,none⟩) (World.block_lt_of_cell? w4 _ c54)).trans c54,(hb.cell (p:=⟨a8,0,none⟩) (World.block_lt_of_cell? w4 _ c80)).trans c80,(hb.cell (p:=⟨a8,1,none⟩) (World.block_lt_of_cell? w4 _ c81)).trans c81,(hb.cell (p:=⟨X,2,none⟩) (World.block_lt_of_cell? w4 _ cX2)).trans cX2,(hb.cell (p:=⟨X,3,none⟩) (World.block_lt_of_cell? w4 _ cX3)).trans cX3⟩
 go_wp2_with fail
 go_region_held3 (fun W=>W.cell? ⟨a5,4,none⟩=some (.slice (some ⟨P,0,none⟩) 1 1)∧W.cell? ⟨a8,0,none⟩=some (.string ⟨#[108,101,110,116]⟩)∧W.cell? ⟨a8,1,none⟩=some (.string ⟨#[]⟩)∧W.cell? ⟨X,2,none⟩=some (.string ⟨#[108,101,110,116]⟩)∧W.cell? ⟨X,3,none⟩=some (.string ⟨#[]⟩)) (first|go_keep|(simp[*])) ((go_at_call 38;refine HSame.out.mono ?_;rintro e w5 ⟨rfl,hb5⟩;have HB5:=hide hb5;obtain⟨q1,q2,q3,q4,q5⟩:=HKc.out w5 hb5;clear hb5))
 have hX5:w5.heap[X]? = some (.cells #[.string k,.string v,.string ⟨#[108,101,110,116]⟩,.string ⟨#[]⟩] 33 (0,0)):=(HB5.out.block X (aGe.1 HF4.out.2.1).1).trans HF4.out.2.1
 have HX5:=hide hX5
 have HU:=hide num_any
 clear hX5 q1 q2 q3 q4 q5 c54 c80 c81 cX2 cX3 HKc HSame
 go_wp2_with fail
 go_loopw [13] (fun iv wr=>∃z:Int,iv=.int .i64 z∧(z=0∨z=1∨z=2)∧(∃s0 s1 s2 s3,wr.heap[X]? = some (.cells #[.string s0,.string s1,.string s2,.string s3] 33 (0,0)))∧Ex (fun j=>j=X) w5 wr) (fun iv _=>2 - (intOf iv).toNat)
 case atStart=>exact⟨0,rfl,.inl rfl,⟨_,_,_,_,HX5.out⟩,Ex.of_below (Below.refl _ _)⟩
 case round =>
  obtain⟨z,rfl,hz,⟨s0,s1,s2,s3,hrow⟩,hex⟩:=hrel
  have HRow:=hide hrow
  have HEx:=hide hex
  have d0:wr.cell? ⟨X,0,none⟩=some (.string s0):=cell_of_row _ _ 0 _ _ (0,0) hrow
  have d1:wr.cell? ⟨X,1,none⟩=some (.string s1):=cell_of_row _ _ 1 _ _ (0,0) hrow
  have d2:wr.cell? ⟨X,2,none⟩=some (.string s2):=cell_of_row _ _ 2 _ _ (0,0) hrow
  have d3:wr.cell? ⟨X,3,none⟩=some (.string s3):=cell_of_row _ _ 3 _ _ (0,0) hrow
  have ff:∀j,wr.frozen? ⟨X,j,none⟩=false:=fun j=>frozen_of_row _ _ j _ _ hrow
  clear hrow hex
  rcases hz with rfl|rfl|rfl
  ·go_wp2
   go_roundw
   case rel=>exact⟨1,rfl,.inr (.inl rfl),⟨_,_,_,_,heap_setCell_same _ X 1 _ 33 _ (heap_setCell_same wr X 0 _ 33 _ HRow.out)⟩,(HEx.out.set (p:=⟨X,0,none⟩) (.inl rfl) _).set (p:=⟨X,1,none⟩) (.inl rfl) _⟩
   case measure=>simp[intOf]
  ·go_wp2
   go_roundw
   case rel=>exact⟨2,rfl,.inr (.inr rfl),⟨_,_,_,_,heap_setCell_same _ X 3 _ 33 _ (heap_setCell_same wr X 2 _ 33 _ HRow.out)⟩,(HEx.out.set (p:=⟨X,2,none⟩) (.inl rfl) _).set (p:=⟨X,3,none⟩) (.inl rfl) _⟩
   case measure=>simp[intOf]
  ·go_wp2_with fail
   refine (HU.out _ _).mono ?_
   rintro e w6 ⟨rfl,rfl⟩
   go_wp2
   go_ret
   have hN:=HN.out
   have s2:=HB2.out.size
   have s3:=HS3.out
   have s4:=HE4.out.size
   have s5:w4.heap.size≤w5.heap.size:=HB5.out.size
   have s6:=HEx.out.size
   have lX:=HlX.out
   have hb45:Below w4.heap.size w4 w5:=(Below.refl _ _).drew.trans HB5.out
   have h36:Ex (fun j=>j=R∨j=X) w3 w6:=((HE4.out.mono (fun j _ h=>.inl h)).trans (Ex.of_below hb45)).trans (HEx.out.mono (fun j _ h=>.inr h))
   refine⟨rfl,?_,?_,rv,?_⟩
   ·refine⟨h36.os.trans HE3.out.os,h36.tape.trans HE3.out.tape,h36.output.trans HE3.out.output,by omega,fun j hj hx=>?_⟩
    rw[h36.block j (by omega) (fun h=>by rcases h with h|h;exact hx (.inr h);omega)]
    exact HE3.out.block j hj (fun e=>hx (.inl e))
   ·have hTR:T≠R:=fun e=>by
     have h1:=HTT.out R _ _ _ e.symm HR.out.box
     exact absurd h1 (by decide)
    have ht:=HT3.out.ex h36 (fun h=>by rcases h with h|h;exact hTR h;have:=HT.out;omega) (fun j hj h=>by
     rcases hj with hj|hj
     ·exact hj
     ·have h1:W2.heap.size≤j:=hj.1
      have:=HRl.out
      rcases h with h|h<;>omega)
    refine ht.mono (fun j hj=>?_) (fun j hj=>⟨hj.2,by have:=HT.out;omega⟩)
    rcases hj with hj|hj
    ·exact hj.elim
    ·have h1:W2.heap.size≤j:=hj.1
     have h2:j<w3.heap.size:=hj.2
     exact⟨by omega,by omega⟩
   ·have hr5:=HR4.out.keep hb45
    refine hr5.ex HEx.out (fun j cs t fr hj hc=>?_)
    rw[hj,HX5.out] at hc
    injection hc with hc
    injection hc with _ hc _
    rw[←hc]
    exact⟨by decide,by decide,by decide⟩
theorem RTree.types {w w' : World}{T:Nat}{S lv:Value}{F:List (List Nat×ByteArray)}(h:RTree w T S lv F)(same:∀(k:Nat) (cs:Array Value) (t:TypeId) (fr:Nat×Nat),w.heap[k]? = some (.cells cs t fr)→(t=77∨t=118∨t=3)→w'.heap[k]? = some (.cells cs t fr)):RTree w' T S lv F:=by
 refine⟨same _ _ _ _ h.box (.inl rfl),h.list.imp id (fun h=>⟨h.1,?_⟩)⟩
 obtain⟨css,h1,h2⟩:=h.2
 refine⟨css,own_far h1 (fun g hg hl=>?_),h2.mono (fun _ _ h=>h.keep (fun g cur hg=>same g _ _ _ hg (.inr (.inr rfl))))⟩
 obtain⟨_,cur,hc⟩:=ownsRow_type h1 g hg
 rw[hc]
 exact same g _ _ _ hc (.inr (.inl rfl))
theorem KeepH.cells {ok:Nat→Prop}{w w' : World}(h:KeepH ok w w'){k:Nat}{cs:Array Value}{t:TypeId}{fr:Nat×Nat}(hk:w.heap[k]? = some (.cells cs t fr))(h1:t≠282)(h2:t≠285):w'.heap[k]? = some (.cells cs t fr) :=
 h.other k _ hk (fun cs' t' fr' e=>by
  injection e with _ e _
  exact⟨fun e' => h1 (e.trans e'),fun e' => h2 (e.trans e')⟩)
theorem RTree.keepH {ok:Nat→Prop}{w w' : World}{T:Nat}{S lv:Value}{F:List (List Nat×ByteArray)}(h:RTree w T S lv F)(hk:KeepH ok w w'):RTree w' T S lv F :=
 h.types (fun k cs t fr hc ht=>hk.cells hc (by rcases ht with ht|ht|ht<;>rw[ht]<;>decide) (by rcases ht with ht|ht|ht<;>rw[ht]<;>decide))
theorem two_boxes (w:World)(cs1 cs2:Array Value)(t1 t2:TypeId):((w.alloc (.cells cs1 t1)).alloc (.cells cs2 t2)).heap[w.heap.size]? = some (.cells cs1 t1 (0,0))∧((w.alloc (.cells cs1 t1)).alloc (.cells cs2 t2)).heap[w.heap.size+1]? = some (.cells cs2 t2 (0,0))∧Below w.heap.size w ((w.alloc (.cells cs1 t1)).alloc (.cells cs2 t2)):=by
 refine⟨(Below.heap_alloc (w.alloc (.cells cs1 t1)) (.cells cs2 t2) w.heap.size (by simp)).trans (heap_alloc_new w _),?_,(below_alloc w _).alloc (by simp) _⟩
 have h:=heap_alloc_new (w.alloc (.cells cs1 t1)) (.cells cs2 t2)
 rwa [World.size_alloc] at h
def askO (kind:Int)(s:ByteArray):Value:=.agg #[.int .i64 kind,.int .i64 0,.string s,.int .i64 0,.slice none 0 0,.slice none 0 0]
theorem asks_get (ok:Nat→Prop)(B T R:Nat)(st S lv:Value)(n:Nd)(k v:ByteArray)(w:World)(hA:TreeAt HkC ok w T st n)(hO:TOk n)(hl:n.look (pathN k)=v)(hv:v.size≠0)(hR:RTree w R S lv [(pathN k,v)])(hk:k.size≤64) :
  Calls Tryz.prog 16 #[.pointer (some ⟨B,0,none⟩),.agg #[ptr T,ptr R],askO 3 k] w fun e w' => e=.returned (.bool true)∧Below w.heap.size w w' := by
 have hG:=fun W (hW:Below w.heap.size w W)=>cGet_any HkC ok T st n k W (hA.keep hW) hO hk
 have hE:gotE (n.look (pathN k))=.returned (.tuple #[.string v,.int .i64 0]):=gotE_yes hl hv
 rw[hE] at hG
 have HG:=hide hG
 have HR:=hide (fun W (hW:Below w.heap.size w W)=>refGet_one S lv R k v W (hR.keep hW) hk)
 have HU:=hide num_any
 clear hG hE hA hO hl hv hR hk
 obtain⟨x4,x5,hb0⟩:=two_boxes w #[.pointer (some ⟨T,0,none⟩),.pointer (some ⟨R,0,none⟩)] #[.int .i64 3,.int .i64 0,.string k,.int .i64 0,.slice none 0 0,.slice none 0 0] 51 40
 have HX:=hide (And.intro x4 x5)
 have HB0:=hide hb0
 clear x4 x5 hb0
 unfold ptr askO at *
 go_enter Tryz.func16,Tryz.ntmps16
 go_wp2_with fail
 generalize ((w.alloc (.cells #[.pointer (some ⟨T,0,none⟩),.pointer (some ⟨R,0,none⟩)] 51)).alloc (.cells #[.int .i64 3,.int .i64 0,.string k,.int .i64 0,.slice none 0 0,.slice none 0 0] 40))=W0 at *
 refine (HG.out W0 HB0.out).mono ?_
 rintro e w1 ⟨rfl,hb1⟩
 have HB1:Hid (Below w.heap.size w w1):=HB0.out.trans (hb1.mono HB0.out.size)
 have y4:=(hb1.block _ (aGe.1 HX.out.1).1).trans HX.out.1
 have y5:=(hb1.block _ (aGe.1 HX.out.2).1).trans HX.out.2
 have c41:w1.cell? ⟨w.heap.size,1,none⟩=some (.pointer (some ⟨R,0,none⟩)):=cell_of_row _ _ 1 _ _ (0,0) y4
 have c52:w1.cell? ⟨w.heap.size+1,2,none⟩=some (.string k):=cell_of_row _ _ 2 _ _ (0,0) y5
 clear hb1 y4 y5
 go_wp2_with fail
 refine (HR.out w1 HB1.out).mono ?_
 rintro e w2 ⟨rfl,hb2⟩
 have HB2:Hid (Below w.heap.size w w2):=HB1.out.trans (hb2.mono HB1.out.size)
 clear hb2 c41 c52
 go_wp2_with fail
 refine (HU.out _ _).mono ?_
 rintro e w3 ⟨rfl,rfl⟩
 go_wp2
 go_ret
 exact⟨rfl,HB2.out⟩
theorem infoS1:(Tryz.prog.info? 9).map (fun i=>(i.zero,i.size,i.bytes))=some (some (.string ⟨#[]⟩),1,16):=by kernel_rfl
theorem asks_root (ok:Nat→Prop)(B T R lo m:Nat)(st S lv v x0 r0 x1 r1 rts:Value)(ss:List Value)(n:Nd)(w:World)(hA:TreeAt HkC ok w T st n)(hO:TOk n)(hTb:TbZ w)(hR:RTree w R S lv (n.flat []))(hs:∀z∈n.flat [],z.1.length≤128)(hl:(n.flat []).length≤100000000)
  (hB:w.heap[B]? = some (.cells (wCells v x0 r0 x1 r1 rts) 55 (0,0))) (hown:w.ownsRow lo 9 1 rts m ss) (h3:3≤lo) (hlo:lo≤B) (hok:∀k,ok k→lo≤k) (hm:m≤1000000) :
  Calls Tryz.prog 16 #[.pointer (some ⟨B,0,none⟩),.agg #[ptr T,ptr R],askO 4 ⟨#[]⟩] w fun e w' => e=.returned (.bool true)∧Below lo w w' ∧
   (∀(k:Nat) (cs:Array Value) (t:TypeId) (fr:Nat×Nat),w.heap[k]? = some (.cells cs t fr)→t≠282→t≠285→t≠55→t≠9→w'.heap[k]? = some (.cells cs t fr)) ∧
   ∃rts', w'.heap[B]? = some (.cells (wCells v x0 r0 x1 r1 rts') 55 (0,0))∧w'.ownsRow lo 9 1 rts' (m+1) (ss++[.string (rootOf n)]):=by
 obtain⟨i0,hi,hz0,hz1,hz2⟩:=info_parts infoS1
 obtain⟨va,vc,rfl⟩:=ownsRow_slice hown
 have HP:=hide (fun W (hW:Below w.heap.size w W)=>cRoot_any ok T st n W (hA.keep hW) hO (hTb.keep hW) (fun k hk=>Nat.le_trans h3 (hok k hk)))
 have HR:=hide (fun W W' (hW:Below w.heap.size w W) (hW' : KeepH ok W W')=>rRoot_any R S lv n W' ((hR.keep hW).keepH hW') hO.cb hs hl)
 have HBx:=hide hB
 have HO:=hide hown
 have HBl:Hid (B<w.heap.size):=(aGe.1 hB).1
 have HOk:=hide hok
 clear hA hO hTb hR hs hl hB hown hok
 obtain⟨x4,x5,hb0⟩:=two_boxes w #[.pointer (some ⟨T,0,none⟩),.pointer (some ⟨R,0,none⟩)] #[.int .i64 4,.int .i64 0,.string ⟨#[]⟩,.int .i64 0,.slice none 0 0,.slice none 0 0] 51 40
 have HX:=hide (And.intro x4 x5)
 have HB0:=hide hb0
 clear x4 x5 hb0
 unfold ptr askO at *
 go_enter Tryz.func16,Tryz.ntmps16
 go_wp2_with fail
 generalize ((w.alloc (.cells #[.pointer (some ⟨T,0,none⟩),.pointer (some ⟨R,0,none⟩)] 51)).alloc (.cells #[.int .i64 4,.int .i64 0,.string ⟨#[]⟩,.int .i64 0,.slice none 0 0,.slice none 0 0] 40))=W0 at *
 refine (HP.out W0 HB0.out).mono ?_
 rintro e w1 ⟨rfl,hk1⟩
 have HK1:=hide hk1
 have y4:=hk1.cells HX.out.1 (by decide) (by decide)
 have c41:w1.cell? ⟨w.heap.size,1,none⟩=some (.pointer (some ⟨R,0,none⟩)):=cell_of_row _ _ 1 _ _ (0,0) y4
 clear hk1 y4
 go_wp2_with fail
 refine (HR.out W0 w1 HB0.out HK1.out).mono ?_
 rintro e w2 ⟨rfl,hb2⟩
 have HB2:=hide hb2
 clear hb2 c41
 have HC2:Hid (∀(k:Nat) (cs:Array Value) (t:TypeId) (fr:Nat×Nat),w.heap[k]? = some (.cells cs t fr)→t≠282→t≠285→w2.heap[k]? = some (.cells cs t fr)):=fun k cs t fr hk h1 h2=>by
  have a:=(HB0.out.block k (aGe.1 hk).1).trans hk
  have b:=HK1.out.cells a h1 h2
  exact (HB2.out.block k (aGe.1 b).1).trans b
 have s0:=HB0.out.size
 have s1:=HK1.out.size
 have s2:=HB2.out.size
 have HBl2:Hid (Below lo w w2):=((HB0.out.mono (by have:=HBl.out;omega)).trans (HK1.out.below (by have:=HBl.out;omega) HOk.out)).trans (HB2.out.mono (by have:=HBl.out;omega))
 have hBx2:=HC2.out B _ _ _ HBx.out (by decide) (by decide)
 have c10:w2.cell? ⟨B,10,none⟩=some (.slice va m vc):=cell_of_row _ _ 10 _ _ (0,0) hBx2
 have f10:w2.frozen? ⟨B,10,none⟩=false:=frozen_of_row _ _ 10 _ _ hBx2
 have hown2:w2.ownsRow lo 9 1 (.slice va m vc) m ss:=own_far HO.out (fun g hg hl=>by
  obtain⟨_,cur,hc⟩:=ownsRow_type HO.out g hg
  rw[hc]
  exact HC2.out g _ _ _ hc (by decide) (by decide))
 have hbv:some B≠(Value.slice va m vc).ownBlock:=fun e=>by
  obtain⟨_,cur,hc⟩:=ownsRow_type hown2 B e.symm
  rw[hBx2] at hc
  injection hc with hc
  injection hc with _ hc _
  exact absurd hc (by decide)
 have HBv:=hide hbv
 have HO2:=hide hown2
 have HO3:=hide (hown2.alloc (.cells #[.string (rootOf n)] 9))
 have HNews:Hid (∀j u,[Value.string (rootOf n)][j]? = some u→(w2.alloc (.cells #[.string (rootOf n)] 9)).cell? ((⟨w2.heap.size,0,none⟩:Addr).add j)=some u):=World.news_of_block (heap_alloc_new w2 (.cells #[.string (rootOf n)] 9))
 have HLo:Hid (lo≤(w2.alloc (.cells #[.string (rootOf n)] 9)).heap.size):=by show _≤_;have:=HBl.out;simp;omega
 have HBx2:=hide hBx2
 have HBl3:Hid (B<w2.heap.size):=by show _<_;have:=HBl.out;omega
 have HY:Hid (∀w4:World,(w2.alloc (.cells #[.string (rootOf n)] 9)).grownBy w4 (Value.slice va m vc).ownBlock→w4.cell? ⟨B,10,none⟩=some (.slice va m vc)∧w4.frozen? ⟨B,10,none⟩=false):=fun w4 h=>by
  have hb4:w4.heap[B]? = w2.heap[B]?:=by rw[h.block B (by have:=HBl3.out;simp;omega) HBv.out,Below.heap_alloc _ _ _ HBl3.out]
  exact⟨(World.cell?_of_block hb4).trans c10,(World.frozen?_of_block hb4).trans f10⟩
 clear s0 s1 s2 hBx2 hown2 hbv
 go_wp2_with (at_builtin;go_must (refine wpList_append_lies _ rfl (.tmp 59) (.tmp 61) 38 rfl lo 9 i0 _ 1 16 Tryz.underlying38 hi hz0 hz1 hz2 rfl (by omega) (.slice va m vc) m _ rfl HO3.out ⟨w2.heap.size,0,none⟩ 1 1 [.string (rootOf n)] rfl rfl HNews.out (by simp[Value.oneCell']) (by omega) (by unfold maxLen;omega) (by omega) HLo.out _ rfl ?_);intro g4 c4 w4 ho4 hg4 hat4 hlt4;go_must (have HX4:=hide (And.intro ho4 hg4));clear ho4 hg4 hat4 hlt4;go_must (obtain⟨y54,f54⟩:=HY.out w4 HX4.out.2))
 go_ret
 have hBx4:w4.heap[B]? = some (.cells (wCells v x0 r0 x1 r1 (.slice va m vc)) 55 (0,0)):=by
  rw[HX4.out.2.block B (by have:=HBl3.out;simp;omega) HBv.out,Below.heap_alloc _ _ _ HBl3.out]
  exact HBx2.out
 have hlo2:lo≤w2.heap.size:=by have:=HBl3.out;omega
 refine⟨rfl,?_,fun k cs t fr hk h1 h2 h3 h4=>?_,_,heap_setCell_same w4 B 10 _ 55 _ hBx4,?_⟩
 ·have hb24:Below lo w2 w4:=((below_alloc w2 _).mono hlo2).grown HX4.out.2 HLo.out (own_ge HO3.out (Nat.le_refl _))
  exact (HBl2.out.trans hb24).setCell (p:=⟨B,10,none⟩) hlo _
 ·have a:=HC2.out k cs t fr hk h1 h2
  have hkl:=(aGe.1 a).1
  have hkB:k≠B:=fun e=>by
   rw[e,HBx2.out] at a
   injection a with a
   injection a with _ a _
   exact h3 a.symm
  rw[heap_setCell_other _ _ _ _ (by exact hkB),HX4.out.2.block k (by simp;omega) (fun e=>by
   obtain⟨_,cur,hc⟩:=ownsRow_type HO2.out k e.symm
   rw[a] at hc
   injection hc with hc
   injection hc with _ hc _
   exact h4 hc),Below.heap_alloc _ _ _ hkl]
  exact a
 ·refine own_far HX4.out.1 (fun g hg hl=>?_)
  obtain⟨_,cur,hc⟩:=ownsRow_type HX4.out.1 g hg
  rw[heap_setCell_other _ _ _ _ (fun e=>by
   have e:g=B:=e
   rw[e,hBx4] at hc
   injection hc with hc
   injection hc with _ hc _
   exact absurd hc (by decide))]
theorem step_put (B T R P:Nat)(st S vv x1 r1 rts:Value)(k v:ByteArray)(w:World)(hB:w.heap[B]? = some (.cells (wCells vv (ptr T) (ptr R) x1 r1 rts) 55 (0,0)))(hA:TreeAt HkC (fun _=>False) w T st .nil)(hR:RTree w R S (.slice none 0 0) [])(hp:w.heap[P]? = some (.cells #[.string k,.string v] 33 (0,0)))(hk:k.size≤64)(hv:v.size≠0)(hv2:v.size≤400) :
  Calls Tryz.prog 14 #[.pointer (some ⟨B,0,none⟩),.agg #[.int .i64 1,.int .i64 0,.string ⟨#[]⟩,.int .i64 0,.slice (some ⟨P,0,none⟩) 1 1,.slice none 0 0]] w fun e w' =>
   e=.returned (.bool true)∧Ex (fun j=>j=T∨j=R) w w' ∧ TreeAt HkC (fun j=>w.heap.size≤j∧j<w'.heap.size) w' T st (setAll .nil [(k,v)])∧∃rv,RTree w' R S rv [(pathN k,v)]:=by
 have hT:=hA.lt
 have HC:=hide (fun W (hW:Below w.heap.size w W)=>changes_put B T R P st S k v W (hA.keep hW) (hR.keep hW) ((hW.block P (aGe.1 hp).1).trans hp) hk hv hv2)
 obtain⟨z3,z6,hb0⟩:=two_boxes w #[.int .i64 1,.int .i64 0,.string ⟨#[]⟩,.int .i64 0,.slice (some ⟨P,0,none⟩) 1 1,.slice none 0 0] #[.pointer (some ⟨T,0,none⟩),.pointer (some ⟨R,0,none⟩)] 40 51
 have HB0:=hide hb0
 have HT:=hide hT
 have hlt:=(aGe.1 hB).1
 have y6:w.cell? ⟨B,6,none⟩=some (.pointer (some ⟨T,0,none⟩)):=cell_of_row _ _ 6 _ _ (0,0) hB
 have y7:w.cell? ⟨B,7,none⟩=some (.pointer (some ⟨R,0,none⟩)):=cell_of_row _ _ 7 _ _ (0,0) hB
 have q6:∀o,(w.alloc o).cell? ⟨B,6,none⟩=some (.pointer (some ⟨T,0,none⟩)):=fun o=>by rw[World.cell?_alloc_lt _ _ _ hlt];exact y6
 have q7:∀o,(w.alloc o).cell? ⟨B,7,none⟩=some (.pointer (some ⟨R,0,none⟩)):=fun o=>by rw[World.cell?_alloc_lt _ _ _ hlt];exact y7
 clear hB hA hR hp hk hv hv2 hb0 hT y6 y7 z3 z6
 unfold ptr at *
 go_enter Tryz.func14,Tryz.ntmps14
 go_wp2_with fail
 refine (HC.out _ HB0.out).mono ?_
 rintro e w1 ⟨rfl,h1,h2,rv,h3⟩
 have HX:=hide (And.intro h1 (And.intro h2 h3))
 clear h1 h2 h3
 go_wp2
 go_ret
 obtain⟨h1,h2,h3⟩:=HX.out
 have hs:=HB0.out.size
 refine⟨rfl,(Ex.of_below HB0.out).trans h1,h2.mono (fun j hj=>⟨by omega,hj.2⟩) (fun j hj=>⟨hj.2,by have:=HT.out;omega⟩),rv,h3⟩
theorem step_get (ok:Nat→Prop)(B T R:Nat)(st S lv vv x1 r1 rts:Value)(n:Nd)(k v:ByteArray)(w:World)(hB:w.heap[B]? = some (.cells (wCells vv (ptr T) (ptr R) x1 r1 rts) 55 (0,0)))(hA:TreeAt HkC ok w T st n)(hO:TOk n)(hl:n.look (pathN k)=v)(hv:v.size≠0)(hR:RTree w R S lv [(pathN k,v)])(hk:k.size≤64) :
  Calls Tryz.prog 14 #[.pointer (some ⟨B,0,none⟩),askO 3 k] w fun e w' => e=.returned (.bool true)∧Below w.heap.size w w' := by
 have hT:=hA.lt
 have HC:=hide (fun W (hW:Below w.heap.size w W)=>asks_get ok B T R st S lv n k v W (hA.keep hW) hO hl hv (hR.keep hW) hk)
 obtain⟨z3,z6,hb0⟩:=two_boxes w #[.int .i64 3,.int .i64 0,.string k,.int .i64 0,.slice none 0 0,.slice none 0 0] #[.pointer (some ⟨T,0,none⟩),.pointer (some ⟨R,0,none⟩)] 40 51
 have HB0:=hide hb0
 have hlt:=(aGe.1 hB).1
 have y6:w.cell? ⟨B,6,none⟩=some (.pointer (some ⟨T,0,none⟩)):=cell_of_row _ _ 6 _ _ (0,0) hB
 have y7:w.cell? ⟨B,7,none⟩=some (.pointer (some ⟨R,0,none⟩)):=cell_of_row _ _ 7 _ _ (0,0) hB
 have q6:∀o,(w.alloc o).cell? ⟨B,6,none⟩=some (.pointer (some ⟨T,0,none⟩)):=fun o=>by rw[World.cell?_alloc_lt _ _ _ hlt];exact y6
 have q7:∀o,(w.alloc o).cell? ⟨B,7,none⟩=some (.pointer (some ⟨R,0,none⟩)):=fun o=>by rw[World.cell?_alloc_lt _ _ _ hlt];exact y7
 clear hB hA hO hl hv hR hk hb0 hT y6 y7 z3 z6
 unfold ptr askO at *
 go_enter Tryz.func14,Tryz.ntmps14
 go_wp2_with fail
 refine (HC.out _ HB0.out).mono ?_
 rintro e w1 ⟨rfl,h1⟩
 have HX:=hide h1
 clear h1
 go_wp2
 go_ret
 exact⟨rfl,HB0.out.trans (HX.out.mono HB0.out.size)⟩
end Go.Proofs.YthdjmldddjljfaaGreatDoor
namespace Go.Proofs.YthdjmldddjljfaaGreatDoor
open Go.RowKit
def stepM (m:List Pr)(p:Pr):List Pr:=m.filter (fun q=>decide (q.1≠p.1))++(if p.2.size=0 then [] else [p])
structure RelM (n:Nd)(m:List Pr):Prop where
 nd:(m.map Prod.fst).Nodup
 sz:∀p∈m,p.1.size≤64∧p.2.size≠0
 lk:∀x:List Nat×ByteArray,(n.look x.1=x.2∧x.2.size≠0)↔∃p∈m,x=(pathN p.1,p.2)
theorem RelM.nil:RelM .nil [] where
 nd:=List.nodup_nil
 sz:=fun p h=>by cases h
 lk:=fun x=>by
  constructor
  ·rintro⟨h,h2⟩
   rw[←h] at h2
   exact absurd rfl h2
  ·rintro⟨p,h,_⟩;cases h
theorem stepM_mem (m:List Pr)(p q:Pr):q∈stepM m p↔(q∈m∧q.1≠p.1)∨(q=p∧p.2.size≠0):=by
 unfold stepM
 rw[List.mem_append,List.mem_filter]
 by_cases h:p.2.size=0
 ·simp[h]
 ·simp[h]
theorem RelM.step {n:Nd}{m:List Pr}(h:RelM n m)(hO:TOk n){p:Pr}(hp:p.1.size≤64):RelM (n.set (pathN p.1) p.2) (stepM m p) where
 nd:=by
  unfold stepM
  rw[List.map_append,List.nodup_append]
  refine⟨?_,?_,?_⟩
  ·exact List.Nodup.sublist (List.Sublist.map _ List.filter_sublist) h.nd
  ·split<;>simp
  ·intro a ha b hb
   obtain⟨q,hq,rfl⟩:=List.mem_map.1 ha
   have hq2:=(List.mem_filter.1 hq).2
   split at hb
   ·simp at hb
   ·simp at hb
    subst hb
    simpa using hq2
 sz:=fun q hq=>by
  rcases (stepM_mem m p q).1 hq with⟨h1,_⟩|⟨rfl,h2⟩
  ·exact h.sz q h1
  ·exact⟨hp,h2⟩
 lk:=fun x=>by
  rw[look_set hO.wf (pathN_lt _)]
  by_cases hx:pathN p.1=x.1
  ·rw[if_pos hx]
   constructor
   ·rintro⟨h1,h2⟩
    exact⟨p,(stepM_mem m p p).2 (.inr ⟨rfl,by rw[h1];exact h2⟩),Prod.ext hx.symm h1.symm⟩
   ·rintro⟨q,hq,rfl⟩
    rcases (stepM_mem m p q).1 hq with⟨_,h2⟩|⟨rfl,h2⟩
    ·exact absurd (key_inj hx).symm h2
    ·exact⟨rfl,h2⟩
  ·rw[if_neg hx,h.lk x]
   constructor
   ·rintro⟨q,hq,rfl⟩
    exact⟨q,(stepM_mem m p q).2 (.inl ⟨hq,fun e=>hx (by rw[e])⟩),rfl⟩
   ·rintro⟨q,hq,rfl⟩
    rcases (stepM_mem m p q).1 hq with⟨h1,_⟩|⟨rfl,_⟩
    ·exact⟨q,h1,rfl⟩
    ·exact absurd rfl hx
theorem Fs_sorted:∀(k:Nat) (ps:List Pr),ps.length=k→(ps.map Prod.fst).Nodup→(Fs ps).Pairwise (fun x y=>plt x.1 y.1)
 | 0,ps,hk,_=>by
   obtain rfl:=List.length_eq_zero_iff.1 hk
   exact List.Pairwise.nil
 | k+1,ps,hk,hn=>by
   have hne:ps≠[]:=fun e=>by rw[e] at hk;simp at hk
   obtain⟨qs,q,rfl⟩:∃qs q,ps=qs++[q]:=⟨ps.dropLast,ps.getLast hne,(List.dropLast_concat_getLast hne).symm⟩
   rw[List.map_append,List.nodup_append] at hn
   rw[Fs_snoc]
   refine insF_sorted _ _ (Fs_sorted k qs (by simpa using hk) hn.1) fun x hx e=>?_
   obtain⟨r,hr,rfl⟩:=(Fs_mem qs x).1 hx
   exact hn.2.2 r.1 (List.mem_map.2 ⟨r,hr,rfl⟩) q.1 (by simp) (key_inj e)
theorem RelM.flat {n:Nd}{m:List Pr}(h:RelM n m)(hO:TOk n):Fs m=n.flat [] :=
 flat_eq hO.wf (Fs_sorted _ m rfl h.nd) fun x=>(Fs_mem m x).trans (h.lk x).symm
end Go.Proofs.YthdjmldddjljfaaGreatDoor
