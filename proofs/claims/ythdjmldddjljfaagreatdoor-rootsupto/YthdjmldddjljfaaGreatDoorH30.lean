/-
  OUR OWN.
-/
import Derived.Test.YthdjmldddjljfaaGreatDoorH24
import Derived.Test.YthdjmldddjljfaaGreatDoorH05
import Derived.Laws.IdiomStrings
import Derived.Laws.IdiomCopy
set_option maxHeartbeats 8000000
set_option maxRecDepth 20000
namespace Go.Proofs.YthdjmldddjljfaaGreatDoor.V
open Go.RowKit
def bl (l:List UInt8):List Value:=l.map fun b=>Value.int .u8 (b.toNat:Int)
def Own8 (w:World)(base:Nat)(v:Value)(l:List UInt8):Prop :=
 ∃g cap cur fr,v=.slice (some ⟨g,0,none⟩) l.length cap∧base≤g∧w.heap[g]? = some (.cells cur 5 fr)∧(∀j,j<cur.size→(decide (fr.1≤j) && decide (j<fr.2))=false)∧l.length≤cap∧cap≤maxLen∧cur.size=cap∧cur.toList.take l.length=bl l
theorem Own8.lt {w:World}{base:Nat}{v:Value}{l:List UInt8}(h:Own8 w base v l):∀k,v.ownBlock=some k→base≤k∧k<w.heap.size:=by
 obtain⟨g,cap,cur,fr,rfl,hb,hg,_⟩:=h
 intro k hk
 obtain rfl:g=k:=by simpa[Value.ownBlock] using hk
 exact⟨hb,(aGe.1 hg).1⟩
theorem Own8.kept {w w' : World}{base:Nat}{v:Value}{l:List UInt8}{row:Option Nat}(h:Own8 w base v l)(hg:w.grownBy w' row)(hne:v.ownBlock≠row):Own8 w' base v l:=by
 obtain⟨g,cap,cur,fr,rfl,hb,hgg,r⟩:=h
 exact⟨g,cap,cur,fr,rfl,hb,by rw[hg.block g (aGe.1 hgg).1 (by simpa[Value.ownBlock] using hne)];exact hgg,r⟩
theorem Own8.cells {w:World}{base g cap:Nat}{n:Nat}{l:List UInt8}(h:Own8 w base (.slice (some ⟨g,0,none⟩) n cap) l):∀j,j<l.length→w.cell? ⟨g,j,none⟩=some (.int .u8 ((l.getD j 0).toNat:Int))∧w.frozen? ⟨g,j,none⟩=false:=by
 obtain⟨g', cap', cur,fr,hv,hb,hgg,hfr,h1,h2,h3,h4⟩:=h
 simp only[Value.slice.injEq,Option.some.injEq,Addr.mk.injEq,and_true] at hv
 obtain⟨rfl,-,rfl⟩:=hv
 intro j hj
 constructor
 ·rw[cell_of_row w g j cur _ fr hgg]
  have:cur.toList[j]? = (bl l)[j]?:=by rw[←h4,List.getElem?_take,if_pos hj]
  rw[Array.getElem?_toList] at this
  rw[this]
  simp[bl,List.getD_eq_getElem?_getD,hj]
 ·simp only[World.frozen?,hgg]
  exact hfr j (by omega)
theorem bl_one (l:List UInt8):∀u∈bl l,u.oneCell' = true:=by
 intro u hu;simp[bl] at hu;obtain⟨b,_,rfl⟩:=hu;rfl
theorem bl_append (l m:List UInt8):bl (l++m)=bl l++bl m:=by simp[bl]
theorem bl_length (l:List UInt8):(bl l).length=l.length:=by simp[bl]
theorem run_append8 (w:World)(base:Nat)(ty:TypeId)(v:Value)(l:List UInt8)(hown:Own8 w base v l)(ad:Addr)(c:Nat)(b:UInt8)(hsrc:w.cell? (ad.add 0)=some (.int .u8 (b.toNat:Int)))
  (hbytes:l.length+1≤140737488355328) (hbase:base≤w.heap.size) :
  ∃g cap w', (Builtin.append_ #[144,144] ty #[v,.slice (some ad) 1 c]).run Tryz.prog w=.ok (.slice (some ⟨g,0,none⟩) (l.length+1) cap) w' ∧ Own8 w' base (.slice (some ⟨g,0,none⟩) (l.length+1) cap) (l++[b])∧w.grownBy w' v.ownBlock∧(v.ownBlock=some g∨g=w.heap.size):=by
 obtain⟨i0,hi,hz0,hz1,hz2⟩:=info_parts info5
 have hcells:=hown
 obtain⟨g,cap,cur,fr,rfl,hb,hgg,hfr,h1,h2,h3,h4⟩:=hown
 have hnews:∀j u,(bl [b])[j]? = some u→w.cell? (ad.add j)=some u:=by
  intro j u hu
  match j,hu with
  | 0,hu=>simp[bl] at hu;subst hu;exact hsrc
 by_cases hroom:l.length+1≤cap
 ·have hf:=run_firstCells_some (P:=Tryz.prog) w i0.size 1 ad 1 c (bl [b]) (by simp[bl,hz1]) hnews
  have hst:=run_storeCells_cells (P:=Tryz.prog) g l.length (bl [b]) 0 w (fun j hj=>by
    have hj0:j=0:=by simp[bl] at hj;exact hj
    subst hj0
    rw[cell_of_row w g _ cur _ fr hgg,Array.getElem?_eq_getElem (by omega)];rfl) (fun j hj=>by
    have hj0:j=0:=by simp[bl] at hj;exact hj
    subst hj0
    simp only[World.frozen?,hgg]
    exact hfr _ (by omega)) (bl_one _)
  simp only[Nat.add_zero] at hst
  have hr:(Builtin.append_ #[144,144] ty #[.slice (some ⟨g,0,none⟩) l.length cap,.slice (some ad) 1 c]).run Tryz.prog w=.ok (.slice (some ⟨g,0,none⟩) (l.length+1) cap) (w.setCells g l.length (bl [b])):=by
   rw[hz1] at hf
   simp[Builtin.append_,run_underlying Tryz.underlying144,sizeOf,typeInfo,hi,Builtin.lenOf,hroom,hf,Addr.add_lit,hst,hz1]
  refine⟨g,cap,_,hr,⟨g,cap,cur.setIfInBounds l.length (.int .u8 (b.toNat:Int)),fr,by simp,hb,?_,?_,by simpa using hroom,h2,by simp[h3],?_⟩,?_,.inl rfl⟩
  ·show (w.setCell ⟨g,l.length,none⟩ (.int .u8 (b.toNat:Int))).heap[g]? = _
   exact heap_setCell_at hgg l.length _
  ·intro j hj;exact hfr j (by simpa using hj)
  ·rw[bl_append,←h4]
   apply List.ext_getElem?
   intro j
   simp only[Array.toList_setIfInBounds,List.length_append,List.length_cons,List.length_nil,Nat.zero_add]
   rw[List.getElem?_take]
   by_cases hj:j<l.length
   ·rw[if_pos (by omega),List.getElem?_set_ne (by omega),List.getElem?_append_left (by simp;omega),List.getElem?_take,if_pos hj]
   ·by_cases hj2:j=l.length
    ·subst hj2
     rw[if_pos (by omega),List.getElem?_set_self (by simp;omega),List.getElem?_append_right (by simp;omega)]
     have:(List.take l.length cur.toList).length=l.length:=by simp;omega
     rw[this];simp[bl]
    ·rw[if_neg (by omega),List.getElem?_eq_none (by simp[bl];omega)]
  ·exact grown_set (World.grownBy.refl w _) g l.length _ (.inr rfl)
 ·have hr:=run_append_grow (P:=Tryz.prog) w 144 ty 5 i0 (.int .u8 0) Tryz.underlying144 hi hz0 ⟨g,0,none⟩ l.length cap (bl l) (by rw[bl_length,hz1];omega) (fun j u hu=>by
    have hj:j<l.length:=by have:=(List.getElem?_eq_some_iff.1 hu).1;rwa [bl_length] at this
    rw[addr_add,Nat.zero_add,(hcells.cells j hj).1,←hu]
    simp[bl,List.getD_eq_getElem?_getD,hj]) ad 1 c (bl [b]) (by simp[bl,hz1]) hnews (by omega) (by omega) (growslice_fits (by omega) (by rw[hz2];omega))
  refine⟨w.heap.size,_,_,hr,⟨w.heap.size,grownCap w (l.length+1) cap 5,_,(0,0),by simp,hbase,heap_alloc_new w.drew _,?_,?_,?_,?_,?_⟩,⟨rfl,rfl,rfl,by simp,fun k hk _=>Below.heap_alloc w.drew _ k hk⟩,.inr rfl⟩
  ·intro j _;simp
  ·have:=grownCap_ge w (l.length+1) cap 5;simpa using this
  ·exact grownCap_le_maxLen w _ _ _ (by unfold maxLen;omega)
  ·have:=grownCap_ge w (l.length+1) cap 5
   have hzc:(Value.int IntKind.u8 0).cells.size=1:=rfl
   simp only[Array.size_append,List.size_toArray,size_zeroCells,bl_length,List.length_cons,List.length_nil,hzc]
   omega
  ·rw[bl_append]
   simp only[Array.toList_append,List.append_assoc]
   rw[←List.append_assoc]
   have:(l++[b]).length=(bl l++bl [b]).length:=by simp[bl]
   rw[this]
   exact List.take_left
theorem Own8.of_string (w:World)(s:ByteArray)(hs:s.size≤140737488355328):∃cap,(convert 9 144 (.string s)).run Tryz.prog w=.ok (.slice (some ⟨w.heap.size,0,none⟩) s.size cap) (w.drew.alloc (.cells (bytesRow s cap) 5 ((bytesRow s cap).size,(bytesRow s cap).size+1))) ∧
  Own8 (w.drew.alloc (.cells (bytesRow s cap) 5 ((bytesRow s cap).size,(bytesRow s cap).size+1))) w.heap.size (.slice (some ⟨w.heap.size,0,none⟩) s.size cap) s.data.toList:=by
 have hr:=run_bytes_of_string (P:=Tryz.prog) w 9 144 5 s Tryz.underlying9 Tryz.underlying144 Tryz.underlying5
 have hge:=grownCap_ge w s.size 0 5
 have hle:=grownCap_le_maxLen w s.size 0 5 (by unfold maxLen;omega)
 have e:s.data.toList.length=s.size:=by rw[Array.length_toList];rfl
 have e2:s.data.size=s.size:=rfl
 refine⟨_,hr,w.heap.size,_,_,_,by rw[e],Nat.le_refl _,heap_alloc_new w.drew _,?_,by rw[e];exact hge,hle,?_,?_⟩
 ·intro j hj;simp;omega
 ·simp[bytesRow,e2];omega
 ·rw[e]
  apply List.ext_getElem?
  intro j
  rw[List.getElem?_take]
  by_cases hj:j<s.size
  ·rw[if_pos hj,Array.getElem?_toList,bytesRow_at s _ j hj]
   simp[bl,hj,e2]
  ·rw[if_neg hj,List.getElem?_eq_none (by rw[bl_length,e];omega)]
def padK (l:List UInt8)(k:Nat):List UInt8:=l++1 :: List.replicate k 0
theorem padK_length (l:List UInt8)(k:Nat):(padK l k).length=l.length+1+k:=by simp[padK];omega
theorem padK_snoc (l:List UInt8)(k:Nat):padK l k++[0]=padK l (k+1):=by
 simp only[padK,List.append_assoc,List.cons_append,List.replicate_succ']
def fullL (l:List UInt8):List UInt8:=(padK l (135 - l.length % 136)).set (l.length+1+(135 - l.length % 136) - 1) ((padK l (135 - l.length % 136)).getD (l.length+1+(135 - l.length % 136) - 1) 0 ||| 128)
theorem fullL_length (l:List UInt8):(fullL l).length=136 * (l.length / 136+1):=by
 unfold fullL
 rw[List.length_set,padK_length]
 omega
theorem full_low (l:List UInt8)(m:Nat)(h:m<l.length / 136)(i:Nat)(hi:i<136):(fullL l).getD (136 * m+i) 0=l.getD (136 * m+i) 0:=by
 have hlt:136 * m+i<l.length:=by omega
 unfold fullL
 rw[List.getD_eq_getElem?_getD,List.getElem?_set_ne (by omega),List.getD_eq_getElem?_getD]
 unfold padK
 rw[List.getElem?_append_left hlt]
theorem full_top (l:List UInt8)(i:Nat)(hi:i<136):(fullL l).getD (136 * (l.length / 136)+i) 0=(padL (l.drop (136 * (l.length / 136)))).getD i 0:=by
 obtain⟨q,hq⟩:∃q,l.length / 136=q:=⟨_,rfl⟩
 rw[hq]
 have hr:(l.drop (136 * q)).length=l.length % 136:=by rw[List.length_drop];omega
 obtain⟨r,hrr⟩:∃r,l.length % 136=r:=⟨_,rfl⟩
 have hl:l.length=136 * q+r:=by omega
 unfold fullL
 rw[hrr]
 rw[hrr] at hr
 have hpk:∀j,j<136→(padK l (135 - r))[136 * q+j]? = some (if j<r then (l.drop (136 * q)).getD j 0 else if j=r then 1 else 0):=by
  intro j hj
  unfold padK
  by_cases h1:j<r
  ·rw[List.getElem?_append_left (by omega),if_pos h1]
   rw[List.getD_eq_getElem?_getD,List.getElem?_drop,List.getElem?_eq_getElem (by omega)];rfl
  ·rw[List.getElem?_append_right (by omega),if_neg h1,show 136 * q+j - l.length=j - r from by omega]
   by_cases h2:j=r
   ·rw[if_pos h2,h2,Nat.sub_self];rfl
   ·rw[if_neg h2]
    obtain⟨t,ht⟩:∃t,j - r=t+1:=⟨j - r - 1,by omega⟩
    rw[ht,List.getElem?_cons_succ,List.getElem?_replicate,if_pos (by omega)]
 have hidx:l.length+1+(135 - r) - 1=136 * q+135:=by omega
 rw[hidx]
 rw[List.getD_eq_getElem?_getD]
 by_cases h135:i=135
 ·subst h135
  rw[List.getElem?_set_self (by rw[padK_length];omega),List.getD_eq_getElem?_getD,hpk 135 (by omega)]
  unfold padL
  rw[hr]
  by_cases hr135:r=135
  ·rw[if_pos hr135,if_neg (by omega),if_pos hr135.symm]
   rw[List.getD_eq_getElem?_getD,List.getElem?_append_right (by omega),show 135 - (l.drop (136 * q)).length=0 from by omega]
   rfl
  ·rw[if_neg hr135,if_neg (by omega),if_neg (by omega)]
   rw[List.getD_eq_getElem?_getD,List.getElem?_append_right (by omega),hr]
   obtain⟨t,ht⟩:∃t,135 - r=t+1:=⟨134 - r,by omega⟩
   rw[ht,List.getElem?_cons_succ,List.getElem?_append_right (by simp;omega)]
   simp[show t - (134 - r)=0 from by omega]
 ·rw[List.getElem?_set_ne (by omega),hpk i hi]
  unfold padL
  rw[hr]
  by_cases hr135:r=135
  ·rw[if_pos hr135,if_pos (by omega)]
   rw[List.getD_eq_getElem?_getD (l:=_++_),List.getElem?_append_left (by omega)]
   rw[List.getD_eq_getElem?_getD];rfl
  ·rw[if_neg hr135]
   by_cases h1:i<r
   ·rw[if_pos h1,List.getD_eq_getElem?_getD (l:=_++_),List.getElem?_append_left (by omega),List.getD_eq_getElem?_getD];rfl
   ·rw[if_neg h1,List.getD_eq_getElem?_getD (l:=_++_),List.getElem?_append_right (by omega),hr]
    by_cases h2:i=r
    ·rw[if_pos h2,h2,Nat.sub_self];rfl
    ·rw[if_neg h2]
     obtain⟨t,ht⟩:∃t,i - r=t+1:=⟨i - r - 1,by omega⟩
     rw[ht,List.getElem?_cons_succ,List.getElem?_append_left (by simp;omega),List.getElem?_replicate,if_pos (by omega)]
def xorB (f:Nat→Nat)(l:List UInt8)(a:Nat):Nat→Nat:=fun j=>f j ^^^ leTo (fun i=>(l.getD (a+(8 * j+i)) 0).toNat) 8
def rfTo (l:List UInt8):Nat→Nat→Nat
 | 0=>zeroF
 | m+1=>permTo (upTo 17 (xorB (rfTo l m) l (136 * m)) (rfTo l m)) 24
theorem xorB_w {f:Nat→Nat}(h:∀j,W64 (f j))(l:List UInt8)(a j:Nat):W64 (xorB f l a j):=W64.xor (h j) (leTo_w (fun _=>UInt8.toNat_lt _))
theorem rfTo_w (l:List UInt8):∀m j,W64 (rfTo l m j)
 | 0,j=>zeroF_w j
 | m+1,j=>permTo_w (upTo_w (xorB_w (rfTo_w l m) l _) (rfTo_w l m)) 24 j
theorem round_fun {f g:Nat→Nat}{s:ByteArray}{l:List UInt8}{a:Nat}(hfg:f=g)(h:∀i,i<136→bt s i=(l.getD (a+i) 0).toNat):permTo (upTo 17 (xorB f l a) f) 24=absF g s:=by
 subst hfg
 unfold absF
 congr 1
 funext j
 unfold upTo
 by_cases hj:j<17
 ·rw[if_pos hj,if_pos hj]
  unfold xorB xorIn blockW
  rw[leTo_congr 8 (fun i hi=>(h (8 * j+i) (by omega)).symm)]
 ·rw[if_neg hj,if_neg hj]
theorem rf_sp (s:ByteArray):∀m,m≤s.size / 136→rfTo (fullL s.data.toList) m=spTo s m
 | 0,_=>rfl
 | m+1,h=>by
   have e:s.data.toList.length=s.size:=by rw[Array.length_toList];rfl
   refine round_fun (rf_sp s m (by omega)) (fun i hi=>?_)
   rw[bt_extract s (136 * m) (136 * m+136) i (by omega),full_low _ m (by rw[e];omega) i hi]
   rfl
theorem rf_last (s:ByteArray):rfTo (fullL s.data.toList) (s.size / 136+1)=absF (spTo s (s.size / 136)) (padS (s.extract (136 * (s.size / 136)) s.size)):=by
 have e:s.data.toList.length=s.size:=by rw[Array.length_toList];rfl
 refine round_fun (rf_sp s _ (Nat.le_refl _)) (fun i hi=>?_)
 have h:=full_top s.data.toList i hi
 rw[e] at h
 rw[h]
 unfold bt padS
 rw[Lib.extract_data,List.take_of_length_le (by rw[List.length_drop,e];exact Nat.le_refl _)]
def hiTo (g:Nat→Nat):Nat→Nat
 | 0=>0
 | c+1=>hiTo g c*256+g (7 - c)
theorem hiTo_lt (g:Nat→Nat)(h:∀j,g j<256):∀c,hiTo g c<256 ^ c
 | 0=>by simp[hiTo]
 | c+1=>by
   have h1:=hiTo_lt g h c
   have h2:=h (7 - c)
   simp only[hiTo,Nat.pow_succ]
   omega
theorem hi_le (g:Nat→Nat):hiTo g 8=leTo g 8:=by
 simp[hiTo,leTo]
 omega
theorem hi_step (g:Nat→Nat)(h:∀j,g j<256)(c:Nat)(hc:c<8):bits BinOp.or IntKind.u64 (IntKind.u64.wrap ((hiTo g c:Nat)*256)) ((g (7 - c):Nat):Int)=((hiTo g (c+1):Nat):Int):=by
 have h1:=hiTo_lt g h c
 have hp:256 ^ c≤256 ^ 7:=Nat.pow_le_pow_right (by omega) (by omega)
 have h2:=h (7 - c)
 have hx:hiTo g c*256 < 18446744073709551616:=by omega
 have e1:IntKind.u64.wrap ((hiTo g c:Nat)*256)=((hiTo g c*256:Nat):Int):=by
  rw[IntKind.wrap_u64];omega
 rw[e1,u64_or_nat _ _ hx (by omega),nat_join 8 _ _ (by omega) (by omega)]
 rfl
def sliceLen:Value→Nat | .slice _ n _=>n|_=>0
theorem own8_shape {w:World}{base:Nat}{v:Value}{l:List UInt8}(h:Own8 w base v l):∃g cap,v=.slice (some ⟨g,0,none⟩) l.length cap∧base≤g∧g<w.heap.size:=by
 have h' := h
 obtain⟨g,cap,cur,fr,rfl,hb,hgg,_⟩:=h
 exact⟨g,cap,rfl,hb,(h'.lt g rfl).2⟩
theorem own8_grown {w w' : World}{base:Nat}{v:Value}{l:List UInt8}(h:Own8 w base v l)(hg:w.grownBy w' none):Own8 w' base v l:=h.kept hg (by obtain⟨g,cap,rfl,_⟩:=own8_shape h;simp[Value.ownBlock])
theorem own8_set {w:World}{base g cap n:Nat}{l:List UInt8}(h:Own8 w base (.slice (some ⟨g,0,none⟩) n cap) l)(j:Nat)(b:UInt8)(hj:j<l.length):Own8 (w.setCell ⟨g,j,none⟩ (.int .u8 (b.toNat:Int))) base (.slice (some ⟨g,0,none⟩) n cap) (l.set j b):=by
 obtain⟨g', cap', cur,fr,hv,hb,hgg,hfr,h1,h2,h3,h4⟩:=h
 simp only[Value.slice.injEq,Option.some.injEq,Addr.mk.injEq,and_true] at hv
 obtain⟨rfl,rfl,rfl⟩:=hv
 refine⟨g,cap,cur.setIfInBounds j (.int .u8 (b.toNat:Int)),fr,by simp,hb,heap_setCell_at hgg j _,fun i hi=>hfr i (by simpa using hi),by simpa using h1,h2,by simp[h3],?_⟩
 rw[List.length_set]
 apply List.ext_getElem?
 intro i
 have h5:=congrArg (fun l=>l[i]?) h4
 simp only[List.getElem?_take,bl,List.getElem?_map] at h5
 simp only[Array.toList_setIfInBounds,List.getElem?_take,bl,List.getElem?_map,List.getElem?_set,Array.length_toList]
 by_cases hi:i<l.length
 ·rw[if_pos hi] at h5 ⊢
  by_cases e:j=i
  ·subst e
   rw[if_pos rfl,if_pos rfl,if_pos (by omega),if_pos hj];rfl
  ·rw[if_neg e,if_neg e];exact h5
 ·rw[if_neg hi] at h5 ⊢
  rw[if_neg (by omega)];exact h5
def byt (L:List UInt8)(P c:Nat)(i:Nat):Nat:=(L.getD (P+(8 * c+i)) 0).toNat
theorem byt_lt (L:List UInt8)(P c i:Nat):byt L P c i<256:=UInt8.toNat_lt _
theorem own_conv {w:World}{base n:Nat}{v:Value}{l:List UInt8}(h:w.ownsRow base 5 1 v n (bl l))(h0:0 < n) :
  (convert 144 9 v).run Tryz.prog w=.ok (.string ⟨l.toArray⟩) w:=by
 have hl:l.length=n:=by have:=h.1;rw[bl_length] at this;omega
 obtain⟨g,cap,rfl,_,_⟩:=h.form h0
 subst hl
 refine run_convert_bytes_back (P:=Tryz.prog) w 144 9 5 ⟨g,0,none⟩ cap l Tryz.underlying144 Tryz.underlying5 Tryz.underlying9 (fun j hj=>?_)
 rw[addr_add,Nat.zero_add,h.cellAt j (by omega)]
 simp[bl,hj]
theorem out_snoc (f:Nat→Nat)(k:Nat)(hk:k<32):bl ((outL f).take k)++[.int .u8 ((outB f k).toNat:Int)]=bl ((outL f).take (k+1)):=by
 have hl:(outL f).length=32:=by simp[outL]
 rw[List.take_succ_eq_append_getElem (by omega),bl_append]
 congr 1
 simp[bl,outL]
set_option maxRecDepth 100000 in
theorem rHash_any (s:ByteArray)(w:World)(hs:s.size≤140737488351232) :
  Calls Tryz.prog 57 #[.string s] w fun e w' => e=.returned (.string (hashOf s))∧Below w.heap.size w w' := by
 have e:s.data.toList.length=s.size:=by rw[Array.length_toList];rfl
 have HE:=hide e
 obtain⟨cap0,hcv,ho0⟩:=Own8.of_string w s (by omega)
 have hb0:Below w.heap.size w (w.drew.alloc (.cells (bytesRow s cap0) 5 ((bytesRow s cap0).size,(bytesRow s cap0).size+1))):=(Below.refl _ w).drew.alloc (Nat.le_refl _) _
 obtain⟨O0,hO0⟩:∃O,Obj.cells (bytesRow s cap0) 5 ((bytesRow s cap0).size,(bytesRow s cap0).size+1)=O:=⟨_,rfl⟩
 rw[hO0] at hcv ho0 hb0
 have ho1:=own8_grown ho0 (World.grownBy_alloc (w.drew.alloc O0) (.cells #[.int .u8 1] 5) none)
 obtain⟨g1,cap1,w1,hr1,ho2,hg1,hat1⟩:=run_append8 _ w.heap.size 144 _ _ ho1 ⟨w.heap.size+1,0,none⟩ 1 1 (by
  rw[addr_add,Nat.zero_add]
  have:=World.cell?_alloc_new (w:=w.drew.alloc O0) #[.int .u8 1] 5 0
  simpa using this) (by rw[HE.out];omega) (by simp;omega)
 have hb1:Below w.heap.size w w1:=(hb0.alloc (by simp) (.cells #[.int .u8 1] 5)).grown hg1 (by simp;omega) (row_ge (Nat.le_refl _))
 rw[HE.out] at hr1 ho2
 have HO1:=hide ho2
 have HB1:=hide hb1
 clear e hO0 ho0 hb0 ho1 ho2 hg1 hat1 hb1
 go_enter Tryz.func57,Tryz.ntmps57
 go_wp2_with (at_builtin;go_must (refine wpList_append_run rfl (.tmp 14) (.tmp 15) 144 rfl _ _ _ w1 rfl rfl hr1 ?_))
 clear hr1 hcv
 go_loopw [3] (fun v wr=>∃(k N g cap:Nat),Hid (k≤135 - s.size % 136)∧Hid (N=s.size+1+k)∧v=.slice (some ⟨g,0,none⟩) N cap∧Own8 wr w.heap.size (.slice (some ⟨g,0,none⟩) N cap) (padK s.data.toList k)∧Below w.heap.size w wr) (fun v _=>s.size+136 - sliceLen v)
 case atStart=>exact⟨0,s.size+1,g1,cap1,Nat.zero_le _,rfl,rfl,HO1.out,HB1.out⟩
 case round =>
  obtain⟨k,N,g,cap,hk,hN,rfl,ho,hb⟩:=hrel
  have HO:=hide ho
  have HB:=hide hb
  clear ho hb HO1 HB1
  have hNb:(N:Int)≤140737488355328:=by have:=hN.out;have:=hk.out;omega
  have HPL:Hid ((padK s.data.toList k).length=N):=by show _=_;rw[padK_length,HE.out,hN.out]
  by_cases hlt:k<135 - s.size % 136
  ·have htst:((N:Int) % 136 != 0)=true:=by rw[bne_iff_ne];have:=hN.out;omega
   have ho1:=own8_grown HO.out (World.grownBy_alloc wr (.cells #[.int .u8 0] 5) none)
   obtain⟨g2,cap2,w2,hr2,ho2,hg2,hat2⟩:=run_append8 _ w.heap.size 144 _ _ ho1 ⟨wr.heap.size,0,none⟩ 1 0 (by
    rw[addr_add,Nat.zero_add]
    have:=World.cell?_alloc_new (w:=wr) #[.int .u8 0] 5 0
    rw[this];simp) (by rw[HPL.out];have:=hN.out;omega) (by have:=HB.out.size;simp;omega)
   rw[HPL.out,padK_snoc] at ho2
   rw[HPL.out] at hr2
   have HO2:=hide ho2
   have HB2:=hide ((HB.out.alloc HB.out.size (.cells #[.int .u8 0] 5)).grown hg2 (by have:=HB.out.size;simp;omega) (fun k hk=>(HO.out.lt k hk).1))
   clear ho1 ho2 hg2 hat2
   go_wp2_with (at_builtin;go_must (refine wpList_append_run rfl (.tmp 21) (.tmp 22) 144 rfl _ _ _ w2 rfl rfl hr2 ?_))
   go_roundw
   case rel=>exact⟨k+1,N+1,g2,cap2,by show k+1≤_;omega,by show N+1=_;have:=hN.out;omega,rfl,HO2.out,HB2.out⟩
   case measure=>simp[sliceLen];have:=hN.out;omega
  ·have hkk:k=135 - s.size % 136:=by have:=hk.out;omega
   have htst:((N:Int) % 136 != 0)=false:=by rw[bne_eq_false_iff_eq];have:=hN.out;omega
   have hlast:=HO.out.cells (N - 1) (by rw[HPL.out];have:=hN.out;omega)
   have hset:=own8_set HO.out (N - 1) ((padK s.data.toList k).getD (N - 1) 0 ||| 128) (by rw[HPL.out];have:=hN.out;omega)
   have hfull:(padK s.data.toList k).set (N - 1) ((padK s.data.toList k).getD (N - 1) 0 ||| 128)=fullL s.data.toList:=by
    unfold fullL;rw[HE.out,←hkk,hN.out]
   rw[hfull] at hset
   have hor:bits BinOp.or IntKind.u8 (((padK s.data.toList k).getD (N - 1) 0).toNat:Int) 128=(((padK s.data.toList k).getD (N - 1) 0 ||| 128).toNat:Int):=by
    have h:=u8_or_nat ((padK s.data.toList k).getD (N - 1) 0).toNat 128 (UInt8.toNat_lt _) (by omega)
    rw[UInt8.toNat_or];exact h
   have HF:=hide hset
   have HBF:=hide (HB.out.setCell (p:=⟨g,N - 1,none⟩) (HO.out.lt g rfl).1 (.int .u8 ((((padK s.data.toList k).getD (N - 1) 0) ||| 128).toNat:Int)))
   obtain⟨hl1,hl2⟩:=hlast
   clear hset hfull hkk
   generalize ((padK s.data.toList k).getD (N - 1) 0 ||| 128).toNat=nb at *
   generalize ((padK s.data.toList k).getD (N - 1) 0).toNat=ob at *
   have hN1:(1:Int)≤(N:Int):=by have:=hN.out;omega
   have r1:((N:Int) - 1).toNat=N - 1:=by omega
   go_wp2_with fail
   obtain⟨W,hW⟩:∃W,wr.setCell ⟨g,N - 1,none⟩ (.int .u8 (nb:Int))=W:=⟨_,rfl⟩
   rw[hW] at HF HBF ⊢
   clear hW hl1 hl2 hor r1 htst
   have HLL:Hid ((fullL s.data.toList).length=N):=by show _=_;rw[fullL_length,HE.out,hN.out];have:=hk.out;omega
   have HNQ:Hid (N=136 * (s.size / 136+1)):=by show _=_;rw[hN.out];have:=hk.out;omega
   clear hlt
   generalize hL:fullL s.data.toList=L at *
   have HL:=hide hL
   clear hL
   refine (constants_any W).mono ?_
   rintro e w3 ⟨vc,rfl,hoc,hbc⟩
   obtain⟨gc,cc,rfl,_,_⟩:=hoc.form (by omega)
   have HCC:Hid (∀j,j<24→w3.cell? ⟨gc,j,none⟩=some (.int .u64 ((rc j:Nat):Int))):=fun j hj=>by
    rw[hoc.cellAt j (by omega),arr_toList];simp[hj]
   have HF3:=hide (own8_grown HF.out (⟨hbc.os,hbc.tape,hbc.output,hbc.size,fun k hk _=>hbc.block k hk⟩:W.grownBy w3 none))
   have HB3:Hid (Below w.heap.size w w3):=HBF.out.trans (hbc.mono HBF.out.size)
   clear hoc hbc HF HBF HO HB
   have hm25:=make25
   go_wp2
   go_loopw [5,6] (fun a at' wr=>∃(m P ga:Nat),Hid (m≤s.size / 136+1)∧at' = .int .i64 (P:Int)∧Hid (P=136 * m)∧a=.slice (some ⟨ga,0,none⟩) 25 25∧At wr ga 156 25 (rfTo L m)∧Hid (w3.heap.size≤ga)∧w3.grownBy wr none) (fun _ at' _=>N - (intOf at').toNat)
   case atStart=>exact⟨0,0,w3.heap.size,Nat.zero_le _,rfl,rfl,rfl,heap_alloc_new w3 _,Nat.le_refl _,World.grownBy_alloc w3 _ _⟩
   case round =>
    obtain⟨m,P,ga,hm,rfl,hP,rfl,hA,hga,hg⟩:=hrel
    have HA:=hide hA
    have HG:=hide hg
    clear hA hg
    by_cases hlt:P<N
    ·have hmq:m≤s.size / 136:=by have:=hP.out;have:=HNQ.out;omega
     have hFw:=rfTo_w L m
     have HR:Hid (rfTo L (m+1)=permTo (upTo 17 (xorB (rfTo L m) L P) (rfTo L m)) 24):=by show _=_;rw[hP.out];rfl
     generalize hF:rfTo L m=F at *
     clear hF
     have hPd:decide ((P:Int)<(N:Int))=true:=by simp;omega
     go_wp2
     clear hPd
     obtain⟨wo,hwo⟩:∃wo:World,wo=wr:=⟨_,rfl⟩
     subst hwo
     go_loopw [7] (fun i wr=>∃c:Nat,c≤17∧i=.int .i64 (c:Int)∧At wr ga 156 25 (upTo c (xorB F L P) F)∧w3.grownBy wr none) (fun i _=>17 - (intOf i).toNat)
     case atStart=>exact⟨0,Nat.zero_le _,rfl,HA.out.congr (fun j _=>upTo_zero _ _ j),HG.out⟩
     case round =>
      obtain⟨c,hc,rfl,hB,hg⟩:=hrel
      by_cases hcl:c<17
      ·have hcells:=(own8_grown HF3.out hg).cells
       have HCL:=hide hcells
       have hx:=hB.cell c (by omega)
       rw[upTo_at] at hx
       have hfz:=hB.free c
       obtain⟨y,hy⟩:∃y,Hid (leTo (byt L P c) 8=y):=⟨_,rfl⟩
       have hyw:W64 y:=by rw[←hy.out];exact leTo_w (byt_lt L P c)
       have hxor:=xor_u64 (F c) y (hFw c) hyw
       have HS:Hid (At (wr.setCell ⟨ga,c,none⟩ (.int .u64 ((F c ^^^ y:Nat):Int))) ga 156 25 (upTo (c+1) (xorB F L P) F)∧w3.grownBy (wr.setCell ⟨ga,c,none⟩ (.int .u64 ((F c ^^^ y:Nat):Int))) none):=by
        refine⟨?_,grown_set hg _ _ _ (.inl hga.out)⟩
        have e:F c ^^^ y=xorB F L P c:=by rw[←hy.out];rfl
        rw[e]
        exact (hB.set c _).congr (fun j _=>upTo_succ c (xorB F L P) F j)
       clear hB hg hcells
       have hcd:decide ((c:Int)<17)=true:=by simp;omega
       go_wp2
       clear hcd
       go_loop [8,9] (fun v i=>∃t:Nat,t≤8∧i=.int .i64 (7 - (t:Int))∧v=.int .u64 ((hiTo (byt L P c) t:Nat):Int)) (fun _ i=>(intOf i+1).toNat)
       case atStart=>exact⟨0,Nat.zero_le _,rfl,rfl⟩
       case round =>
        obtain⟨t,ht,rfl,rfl⟩:=hrel
        by_cases htl:t<8
        ·obtain⟨Q,hQ⟩:∃Q,Hid (P+(8 * c+(7 - t))=Q):=⟨_,rfl⟩
         have hQN:(Q:Int)<(N:Int):=by have:=hQ.out;have:=hP.out;have:=HNQ.out;omega
         have hb:=(HCL.out Q (by rw[HLL.out];omega)).1
         have HST:=hide (hi_step (byt L P c) (byt_lt L P c) t htl)
         have hbq:byt L P c (7 - t)=(L.getD Q 0).toNat:=by unfold byt;rw[hQ.out]
         rw[hbq] at HST
         clear hbq
         have hq:(P:Int)+8 * (c:Int)+(7 - (t:Int))=(Q:Int):=by have:=hQ.out;omega
         have hby:((L.getD Q 0).toNat:Int)<256:=by have:=UInt8.toNat_lt (L.getD Q 0);omega
         have hPb:(P:Int)≤140737488355328:=by omega
         generalize (L.getD Q 0).toNat=bq at *
         go_wp2
         go_round
         case rel=>exact⟨t+1,by omega,by congr 1;omega,by rw[HST.out]⟩
         case measure=>simp[intOf];omega
        ·have ht8:t=8:=by omega
         have HY:Hid (hiTo (byt L P c) t=y):=by show _=_;rw[ht8,hi_le,hy.out]
         have htn:(7:Int)<(t:Int):=by omega
         clear ht8
         rw[HY.out]
         generalize F c ^^^ y=z at *
         generalize F c=x at hx hxor
         have hc25:(c:Int)<25:=by omega
         go_wp2
         go_roundw
         case rel=>exact⟨c+1,by omega,by go_num,HS.out.1,HS.out.2⟩
         case measure=>simp[intOf];omega
      ·have hc17:c=17:=by omega
       rw[hc17] at hB
       have HB7:=hide hB
       have HG7:=hide hg
       clear hB hg hc17
       go_wp2_with fail
       refine (permuted_any ga gc cc _ wr HB7.out (upTo_w (xorB_w hFw L P) hFw) (fun j hj=>HG7.out.cell (HCC.out j hj) (by simp))).mono ?_
       rintro e w8 ⟨g8,rfl,ha8,hge8,hg8⟩
       rw[←HR.out] at ha8
       have H8:Hid (At w8 g8 156 25 (rfTo L (m+1))∧w3.heap.size≤g8∧w3.grownBy w8 none):=⟨ha8,Nat.le_trans HG7.out.size hge8,HG7.out.trans hg8⟩
       clear ha8 hge8 hg8
       have hPb:(P:Int)≤140737488355328:=by omega
       go_wp2
       go_roundw
       case rel=>exact⟨m+1,P+136,g8,by show m+1≤_;omega,by go_num,by show P+136=_;have:=hP.out;omega,rfl,H8.out.1,H8.out.2.1,H8.out.2.2⟩
       case measure=>simp[intOf];have:=hP.out;omega
    ·have hmq:m=s.size / 136+1:=by have:=hP.out;have:=HNQ.out;have:=hm.out;omega
     have HFI:Hid (rfTo L m=absF (spTo s (s.size / 136)) (padS (s.extract (136 * (s.size / 136)) s.size))):=by show _=_;rw[hmq,←HL.out];exact rf_last s
     have HH:Hid (hashOf s=⟨(outL (rfTo L m)).toArray⟩):=by show _=_;rw[HFI.out];rfl
     have hPd:decide ((P:Int)<(N:Int))=false:=by simp;omega
     generalize rfTo L m=F at *
     clear HFI hmq
     obtain⟨j0,hj0,hy0,hy1,hy2⟩:=info_parts info5
     go_wp2
     clear hPd hlt
     obtain⟨wo,hwo⟩:∃wo:World,wo=wr:=⟨_,rfl⟩
     subst hwo
     go_loopw [10,11] (fun v i wr=>∃k:Nat,k≤32∧i=.int .i64 (k:Int)∧wr.ownsRow wo.heap.size 5 1 v k (bl ((outL F).take k))∧Below wo.heap.size wo wr) (fun _ i _=>32 - (intOf i).toNat)
     case atStart=>exact⟨0,Nat.zero_le _,rfl,World.ownsRow_nil _ _ _ _,Below.refl _ _⟩
     case round =>
      obtain⟨k2,hk2,rfl,ho,hb⟩:=hrel
      have HO:=hide ho
      have HB:=hide hb
      clear ho hb
      by_cases hkl:k2 < 32
      ·have hx0:=HA.out.cell (k2 / 8) (by omega)
       have hx:wr.cell? ⟨ga,k2 / 8,none⟩=some (.int .u64 ((F (k2 / 8):Nat):Int)):=by rw[HB.out.cell (p:=⟨ga,k2 / 8,none⟩) HA.out.lt];exact hx0
       clear hx0
       have HOE:=hide (out_eq F k2)
       have HSN:=hide (out_snoc F k2 hkl)
       have b0:(0:Int)≤(k2:Int):=by omega
       have b1:(k2:Int)<32:=by omega
       go_wp2_with (at_builtin;go_must (refine wpList_append_lies _ rfl (.tmp 81) (.tmp 92) 144 rfl wo.heap.size 5 j0 (.int .u8 0) 1 1 Tryz.underlying144 hj0 hy0 hy1 hy2 rfl (by decide) u10 k2 _ rfl (HO.out.alloc _) ⟨wr.heap.size,0,none⟩ 1 1 [.int .u8 (((F (k2 / 8):Nat):Int) / 2 ^ (8 * (k2 % 8)) % 256)] rfl rfl (news_ofT wr 5 [.int .u8 (((F (k2 / 8):Nat):Int) / 2 ^ (8 * (k2 % 8)) % 256)]) (by simp[Value.oneCell']) (by omega) (by unfold maxLen;omega) (by omega) (by have:=HB.out.size;simp;omega) _ rfl ?_);intro g9 c9 w9 ho9 hg9 ha9 hl9;go_must (rw[HOE.out,HSN.out] at ho9;have HO9:=hide ho9);go_must (have HB9:=hide ((HB.out.alloc HB.out.size _).grown hg9 (by have:=HB.out.size;simp;omega) (own_ge HO.out (Nat.le_refl _))));clear ho9 hg9)
       go_roundw
       case rel=>exact⟨k2+1,by omega,by go_num,HO9.out,HB9.out⟩
       case measure=>simp[intOf];omega
      ·have hk32:k2=32:=by omega
       have hol:=HO.out
       rw[hk32,List.take_of_length_le (by simp[outL])] at hol
       have hcv2:=own_conv hol (by omega)
       have HFB:Hid (Below w.heap.size w wr):=by
        have h3:Below w.heap.size w wo:=HB3.out.trans ⟨HG.out.os,HG.out.tape,HG.out.output,HG.out.size,fun k hk=>HG.out.block k (by have:=HB3.out.size;omega) (by simp)⟩
        exact h3.trans (HB.out.mono h3.size)
       have hkd:decide ((k2:Int)<32)=false:=by simp;omega
       clear hol hk32
       go_wp2
       go_ret
       exact⟨by rw[HH.out];rfl,HFB.out⟩
end Go.Proofs.YthdjmldddjljfaaGreatDoor.V
