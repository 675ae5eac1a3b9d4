/-
  OUR OWN.
-/
import Derived.Test.YthdjmldddjljfaaGreatDoorG43
import Derived.Test.YthdjmldddjljfaaGreatDoorG45
set_option maxHeartbeats 8000000
set_option maxRecDepth 20000
namespace Go.Proofs.YthdjmldddjljfaaGreatDoor
open Go.RowKit
attribute [local go_sem ↓] Go.wp_at_zero Go.wp_at_succ
def NewRef (es:List Pr)(w:World)(e:Ending)(w' : World):Prop:=Below w.heap.size w w' ∧ ((¬newErr es=0∧e=.returned (.tuple #[.pointer none,.int .i64 (newErr es)]))∨(newErr es=0∧∃R S,e=.returned (.tuple #[ptr R,.int .i64 0])∧w.heap.size≤R∧w'.heap[R]? = some (.cells #[ptr S,.slice none 0 0] 77 (0,0))∧w.heap.size≤S∧R≠S∧∃sv,w'.heap[S]? = some (.cells #[sv,.bool false] 74 (0,0))∧w'.ownsRow w.heap.size 125 2 sv es.length (prC es)))
theorem nodup_of_prs {es:List Pr}:(∀i,i<es.length→∀k,k<i→(es.getD k pr0).1≠(es.getD i pr0).1)→(es.map Prod.fst).Nodup:=fun h=>by
 rw[List.nodup_iff_pairwise_ne,List.pairwise_iff_getElem]
 intro i j hi hj hij
 rw[List.length_map] at hi hj
 have:=h j hj i hij
 rw[List.getD_eq_getElem?_getD,List.getElem?_eq_getElem hi,List.getD_eq_getElem?_getD,List.getElem?_eq_getElem hj] at this
 simpa using this
theorem not_nodup {es:List Pr}{i k:Nat}(hi:i<es.length)(hk:k<i)(he:(es.getD k pr0).1=(es.getD i pr0).1):¬(es.map Prod.fst).Nodup:=fun h=>by
 rw[List.nodup_iff_pairwise_ne,List.pairwise_iff_getElem] at h
 have:=h k i (by rw[List.length_map];omega) (by rw[List.length_map];exact hi) hk
 rw[List.getD_eq_getElem?_getD,List.getElem?_eq_getElem (show k<es.length by omega),List.getD_eq_getElem?_getD,List.getElem?_eq_getElem hi] at he
 exact this (by simpa using he)
theorem neqS {a b:ByteArray}(h:¬a=b):(a.toList == b.toList)=false:=by
 rw[beq_eq_false_iff_ne]
 exact fun e=>h (text_inj e)
theorem prC_length (xs:List Pr):(prC xs).length=xs.length*2:=by
 induction xs with
 | nil=>rfl
 | cons x xs ih =>
   have e:prC (x :: xs)=[.string x.1,.string x.2]++prC xs:=by simp[prC]
   rw[e,List.length_append,ih];simp;omega
theorem prC_one {xs:List Pr}:∀u∈prC xs,u.oneCell' = true:=fun u hu=>by
 unfold prC at hu
 obtain⟨p,_,hp⟩:=List.mem_flatMap.1 hu
 simp at hp
 rcases hp with rfl|rfl<;>rfl
theorem prs_news {w:World}{g o:Nat}{es:List Pr}(h:Prs w (some ⟨g,o,none⟩) es):∀j u,(prC es)[j]? = some u→w.cell? ((⟨g,o,none⟩:Addr).add j)=some u:=fun j u hj=>by
 have hl:=(List.getElem?_eq_some_iff.1 hj).1
 rw[prC_length] at hl
 obtain⟨g', o', e,h1,h2⟩:=h (j / 2) (by omega)
 obtain⟨rfl,rfl⟩:g=g' ∧ o=o' := by simpa using e
 obtain⟨k1,k2⟩:=prC_get es (j / 2) (by omega)
 rw[addr_add]
 rcases Nat.mod_two_eq_zero_or_one j with hm|hm
 ·have e2:j / 2 * 2=j:=by omega
  rw[e2] at h1 k1
  rw[h1,←hj,k1]
 ·have e2:j / 2 * 2+1=j:=by omega
  rw[e2] at k2
  rw[Nat.add_assoc,e2] at h2
  rw[h2,←hj,k2]
theorem run_append_zero {P:Program}(w:World)(t ty e:TypeId)(ao:Option Addr)(cap:Nat)(hu:P.underlying t=some (.slice e))(hs:(P.info? e).map (·.size)=some 2):(Builtin.append_ #[t,t] ty #[.slice none 0 0,.slice ao 0 cap]).run P w=.ok (.slice none 0 0) w:=by
 cases hq:P.info? e with
 | none=>simp[hq] at hs
 | some i =>
   have hl:∀(x:Addr),(loadCells x 0).run P w=.ok #[] w:=fun x=>by simpa using run_loadCells_list (P:=P) w x [] (by simp)
   cases ao<;>simp[Builtin.append_,run_underlying hu,Builtin.lenOf,Builtin.firstCells,sizeOf,typeInfo,hq,hl]
theorem newRef_fin {es:List Pr}{w W2 w3:World}{R S:Nat}{sv:Value}(hb:Below w.heap.size w W2)(hS:w.heap.size≤S)(hR:R=S+1)(hsz:R<W2.heap.size)(z1:W2.heap[R]? = some (.cells #[.pointer (some ⟨S,0,none⟩),.slice none 0 0] 77 (0,0)))(z2:W2.heap[S]? = some (.cells #[.slice none 0 0,.bool false] 74 (0,0)))(he:newErr es=0)(hg:W2.grownBy w3 none)(ho:w3.ownsRow w.heap.size 125 2 sv es.length (prC es)) :
  NewRef es w (.returned (.tuple #[.pointer (some ⟨R,0,none⟩),.int .i64 0])) (w3.setCell ⟨S,0,none⟩ sv):=by
 have hall:∀k,k<W2.heap.size→w3.heap[k]? = W2.heap[k]?:=fun k hk=>hg.block k hk (by simp)
 have hz2:=(hall S (by omega)).trans z2
 have hbel:Below w.heap.size w w3:=⟨hg.os.trans hb.os,hg.tape.trans hb.tape,hg.output.trans hb.output,Nat.le_trans hb.size hg.size,fun k hk=>(hall k (by have:=hb.size;omega)).trans (hb.block k hk)⟩
 refine⟨hbel.setCell (p:=⟨S,0,none⟩) hS sv,.inr ⟨he,R,S,rfl,by omega,?_,hS,by omega,sv,?_,own_far ho (fun k hk _=>?_)⟩⟩
 ·rw[Below.heap_setCell _ _ _ _ (by show R≠S;omega)]
  exact (hall R hsz).trans z1
 ·exact heap_setCell_same _ S 0 _ _ sv hz2
 ·refine Below.heap_setCell _ _ _ _ (fun e=>?_)
  have e2:k=S:=e
  rcases ho.2 with⟨h1,_⟩|⟨q,c,cur,h1,_,h3,_⟩
  ·rw[h1] at hk;cases hk
  ·rw[h1] at hk
   obtain rfl:q=k:=by simpa[Value.ownBlock] using hk
   rw[e2,hz2] at h3
   injection h3 with h3
   injection h3 with _ h3 _
   exact absurd h3 (by decide)
theorem refNew_any (ao:Option Addr)(cap:Nat)(es:List Pr)(w:World)(hp:Prs w ao es)(hl:es.length≤100000000) :
  Calls Tryz.prog 24 #[.slice ao es.length cap] w fun e w' => NewRef es w e w' := by
 have HPs:=hide hp
 by_cases h1:1000 < es.length
 ·have hE:newErr es=1:=if_pos h1
  have j1:(1000:Int)<(es.length:Int):=by omega
  have HE:=hide hE
  clear hE h1 hp
  go_enter Tryz.func24,Tryz.ntmps24
  go_wp2
  go_ret2
  exact⟨Below.refl _ _,.inl ⟨by rw[HE.out];decide,by rw[HE.out];rfl⟩⟩
 ·have j1:¬(1000:Int)<(es.length:Int):=by omega
  have HE:Hid (newErr es=if (es.map Prod.fst).Nodup then 0 else 14):=if_neg h1
  have hl2:es.length≤1000:=by omega
  clear h1 hp
  go_enter Tryz.func24,Tryz.ntmps24
  go_wp2_with fail
  go_loopw [4] (fun iv wr=>∃i:Nat,i≤es.length∧iv=.int .i64 (i:Int)∧(∀j,j<i→∀k,k<j→(es.getD k pr0).1≠(es.getD j pr0).1)∧Below w.heap.size w wr) (fun iv _=>es.length - (intOf iv).toNat)
  case atStart=>exact⟨0,by omega,rfl,fun j hj=>by omega,Below.refl _ _⟩
  case round =>
   obtain⟨i,hi,rfl,hnd,hbw⟩:=hrel
   have HNd:=hide hnd
   have HB:=hide hbw
   have i0:(0:Int)≤(i:Int):=by omega
   by_cases hil:i<es.length
   ·have i1:(i:Int)<(es.length:Int):=by omega
    clear hnd hbw
    go_wp2_with fail
    go_loopw [5] (fun kv wr' => ∃k:Nat,k≤i∧kv=.int .i64 (k:Int)∧(∀j,j<k→(es.getD j pr0).1≠(es.getD i pr0).1)∧Below w.heap.size w wr') (fun kv _=>i - (intOf kv).toNat)
    case atStart=>exact⟨0,by omega,rfl,fun j hj=>by omega,HB.out⟩
    case round =>
     obtain⟨k,hk,rfl,hne,hbk⟩:=hrel
     have HNe:=hide hne
     have HBk:=hide hbk
     have k0:(0:Int)≤(k:Int):=by omega
     by_cases hki:k<i
     ·have k1:(k:Int)<(i:Int):=by omega
      have k2:(k:Int)<(es.length:Int):=by omega
      obtain⟨g,o,rfl,x0,x1⟩:=HPs.out.keep hbk i hil
      obtain⟨g', o', eo,y0,y1⟩:=HPs.out.keep hbk k (by omega)
      obtain⟨rfl,rfl⟩:g=g' ∧ o=o' := by simpa using eo
      have HHil:=hide hil
      have HHki:=hide hki
      by_cases heq:(es.getD k pr0).1=(es.getD i pr0).1
      ·have HD:Hid (newErr es=14):=by
        show _=_
        rw[HE.out,if_neg]
        exact not_nodup HHil.out HHki.out heq
       rw[heq] at y0
       clear hne hbk eo x1 y1 heq
       generalize (es.getD i pr0).1=s2 at *
       have hq:(s2.toList == s2.toList)=true:=beq_self_eq_true _
       go_wp2
       go_quiet (fail)
       go_wp2
       go_ret2
       exact⟨below_drewN HBk.out _,.inl ⟨by rw[HD.out];decide,by rw[HD.out];rfl⟩⟩
      ·have HS2:Hid (∀j,j<k+1→(es.getD j pr0).1≠(es.getD i pr0).1):=fun j hj=>by
        by_cases e:j<k
        ·exact HNe.out j e
        ·obtain rfl:j=k:=by omega
         exact heq
       have hq:=neqS heq
       clear hne hbk eo x1 y1 heq
       generalize (es.getD k pr0).1=s1 at *
       generalize hs2:(es.getD i pr0).1=s2 at *
       clear hs2
       go_wp2
       go_quiet (fail)
       go_wp2
       go_roundw
       case rel=>exact⟨k+1,by omega,by go_num,HS2.out,below_drewN HBk.out _⟩
       case measure=>simp[intOf];omega
     ·obtain rfl:k=i:=by omega
      clear hne hbk
      go_wp2
      go_roundw
      case rel =>
       refine⟨k+1,by omega,by go_num,fun j hj=>?_,HBk.out⟩
       by_cases e:j<k
       ·exact HNd.out j e
       ·obtain rfl:j=k:=by omega
        exact HNe.out
      case measure=>simp[intOf];omega
   ·obtain rfl:i=es.length:=by omega
    have HF:Hid (newErr es=0):=by
     show _=_
     rw[HE.out,if_pos (nodup_of_prs hnd)]
    clear hnd hbw
    have z1:=heap_alloc_new (wr.alloc (.cells #[.slice none 0 0,.bool false] 74)) (.cells #[.pointer (some ⟨wr.heap.size,0,none⟩),.slice none 0 0] 77)
    have z2:=(Below.heap_alloc (wr.alloc (.cells #[.slice none 0 0,.bool false] 74)) (.cells #[.pointer (some ⟨wr.heap.size,0,none⟩),.slice none 0 0] 77) wr.heap.size (by simp)).trans (heap_alloc_new wr _)
    have HB2:Hid (Below w.heap.size w ((wr.alloc (.cells #[.slice none 0 0,.bool false] 74)).alloc (.cells #[.pointer (some ⟨wr.heap.size,0,none⟩),.slice none 0 0] 77))):=HB.out.trans ((below_alloc2 _ _ _).mono HB.out.size)
    have HS2:Hid (((wr.alloc (.cells #[.slice none 0 0,.bool false] 74)).alloc (.cells #[.pointer (some ⟨wr.heap.size,0,none⟩),.slice none 0 0] 77)).heap.size=wr.heap.size+2):=by show _=_;simp
    have HSw:Hid (w.heap.size≤wr.heap.size):=HB.out.size
    rw[World.size_alloc] at z1
    have Z1:=hide z1
    have Z2:=hide z2
    clear z1 z2 HB
    go_wp2_with fail
    generalize ((wr.alloc (.cells #[.slice none 0 0,.bool false] 74)).alloc (.cells #[.pointer (some ⟨wr.heap.size,0,none⟩),.slice none 0 0] 77))=W2 at *
    generalize hR:wr.heap.size+1=R at *
    generalize hS:wr.heap.size=S at *
    have HRS:Hid (R=S+1):=by show _=_;omega
    clear hR hS
    have c0:W2.cell? ⟨R,0,none⟩=some (.pointer (some ⟨S,0,none⟩)):=cell_of_row _ _ 0 _ _ (0,0) Z1.out
    have c1:W2.cell? ⟨S,0,none⟩=some (.slice none 0 0):=cell_of_row _ _ 0 _ _ (0,0) Z2.out
    have f1:W2.frozen? ⟨S,0,none⟩=false:=frozen_of_row _ _ 0 _ _ Z2.out
    obtain⟨i0', hi0', hz0,hz1,hz2⟩:=info_parts infoEnt
    by_cases hne0:es.length=0
    ·obtain rfl:=List.eq_nil_of_length_eq_zero hne0
     have HA:=run_append_zero (P:=Tryz.prog) W2.drew 22 22 125 ao cap Tryz.underlying22 sizeEnt
     have HA2:=hide HA
     have HBd:=hide HB2.out.drew
     clear HA
     go_region_law ((refine step_append_run _ (by rfl) _ _ _ (by rfl) (.slice none 0 0) (.slice ao 0 cap) (.slice none 0 0) W2.drew (by rfl) (by rfl) HA2.out ?_))
     all_goals
      go_wp2
      go_ret2
      exact newRef_fin HB2.out HSw.out HRS.out (by have:=HS2.out;have:=HRS.out;omega) Z1.out Z2.out HF.out (w3:=W2.drew) ⟨rfl,rfl,rfl,Nat.le_refl _,fun _ _ _=>rfl⟩ (World.ownsRow_nil _ _ _ _)
    ·obtain⟨g,o,rfl,_,_⟩:=HPs.out 0 (by omega)
     have HNew:Hid (∀j u,(prC es)[j]? = some u→W2.drew.cell? ((⟨g,o,none⟩:Addr).add j)=some u):=prs_news (HPs.out.keep HB2.out.drew)
     have HOw:Hid (W2.drew.ownsRow w.heap.size 125 2 (.slice none 0 0) 0 []):=World.ownsRow_nil _ _ _ _
     have HLo:Hid (w.heap.size≤W2.drew.heap.size):=HB2.out.size
     have HLn:Hid ((prC es).length=es.length*2):=prC_length es
     have HW2c:Hid (W2.drew.heap.size=W2.heap.size):=rfl
     go_region_law ((refine step_append_lies _ (by rfl) _ _ _ (by rfl) w.heap.size 125 i0' _ 2 32 Tryz.underlying22 hi0' hz0 hz1 hz2 rfl (by omega) (.slice none 0 0) 0 _ (by rfl) HOw.out ⟨g,o,none⟩ es.length cap (prC es) (by rfl) HLn.out HNew.out prC_one (by omega) (by unfold maxLen;omega) (by omega) HLo.out W2.heap.size HW2c.out ?_;intro gg cap2 w3 hown3 hgrow hat3 hlt3;(have HX3:=hide (And.intro hown3 (And.intro hgrow hat3)));(have e0:=hgrow.block S (by have:=HS2.out;show S<W2.heap.size;omega) (by simp[Value.ownBlock]));(have p1:w3.cell? ⟨S,0,none⟩=some (.slice none 0 0):=(World.cell?_of_block e0).trans c1);(have p0:w3.cell? ⟨R,0,none⟩=some (.pointer (some ⟨S,0,none⟩)):=(World.cell?_of_block (hgrow.block R (by have:=HS2.out;have:=HRS.out;show R<W2.heap.size;omega) (by simp[Value.ownBlock]))).trans c0);(have p2:w3.frozen? ⟨S,0,none⟩=false:=(World.frozen?_of_block e0).trans f1);clear hown3 hgrow hat3 hlt3 e0))
     all_goals
      go_wp2
      go_ret2
      exact newRef_fin HB2.out HSw.out HRS.out (by have:=HS2.out;have:=HRS.out;omega) Z1.out Z2.out HF.out (w3:=w3) ⟨HX3.out.2.1.os,HX3.out.2.1.tape,HX3.out.2.1.output,HX3.out.2.1.size,HX3.out.2.1.block⟩ (by have h:=HX3.out.1;rw[Nat.zero_add] at h;exact h)
theorem rep2_zero (k:Nat):rep2 k ⟨#[]⟩=List.replicate (k*2) (.string ⟨#[]⟩):=by
 induction k with
 | zero=>rfl
 | succ k ih=>rw[←rep2_snoc,ih,show (k+1)*2=k*2+1+1 from by omega,List.replicate_succ', List.replicate_succ', List.append_assoc];rfl
theorem made2 (z:Value)(n:Nat):madeCells #[z,z] n=(List.replicate n z).toArray:=by
 apply Array.ext
 ·simp[madeCells]
 ·intro i h1 h2
  have hm:i % 2=0∨i % 2=1:=by omega
  rcases hm with h|h<;>simp[madeCells,h]
theorem make_any2 {P:Program}(w:World)(t e:TypeId)(ht:P.underlying t=some (.slice e))(hinf:(P.info? e).map (fun i=>(i.zero,i.size,i.bytes))=some (some (.agg #[.string ⟨#[]⟩,.string ⟨#[]⟩]),2,32))(k:Nat)(hk:k≤1000000000) :
  (Instr.makeSlice t (.int .i64 (k:Int)) (.int .i64 (k:Int))).run P w=.ok (.slice (some ⟨w.heap.size,0,none⟩) k k) (w.alloc (.cells (rep2 k ⟨#[]⟩).toArray e)):=by
 obtain⟨i0,hi,hz0,hz1,hz2⟩:=info_parts hinf
 have h:=run_make (P:=P) w t e i0 (.agg #[.string ⟨#[]⟩,.string ⟨#[]⟩]) ht hi hz0 .i64 .i64 (k:Int) (k:Int) (by omega) (by omega) (by rw[hz2];omega) (by omega)
 rw[rep2_zero,←made2]
 simpa[hz1,Value.cells] using h
theorem set_row2 {w:World}{g:Nat}{L:List Value}{t:TypeId}(h:w.heap[g]? = some (.cells L.toArray t (0,0)))(i j:Nat)(a b:Value) :
  ((w.setCell ⟨g,i,none⟩ a).setCell ⟨g,j,none⟩ b).heap[g]? = some (.cells ((L.set i a).set j b).toArray t (0,0)):=by
 rw[heap_setCell_same _ g j _ t _ (heap_setCell_same w g i _ t _ h)]
 simp
theorem cell_row {w:World}{g:Nat}{L:List Value}{t:TypeId}(h:w.heap[g]? = some (.cells L.toArray t (0,0)))(i:Nat):w.cell? ⟨g,i,none⟩=L[i]?:=by
 rw[cell_of_row _ _ i _ _ (0,0) h];simp
theorem set_right {A L:List Value}{n:Nat}(hl:A.length=n)(i:Nat)(v:Value):(A++L).set (n+i) v=A++L.set i v:=by
 rw[List.set_append_right _ _ (by omega),hl,Nat.add_sub_cancel_left]
def lentC (es:List Pr)(d k:Nat)(s:ByteArray):List Value:=prC es++(rep2 k s++(rep2 d ⟨#[]⟩).drop (k*2))
theorem lentC_full (es:List Pr)(d:Nat)(s:ByteArray):lentC es d d s=prC es++rep2 d s:=by
 unfold lentC
 rw[List.drop_eq_nil_of_le (by rw[rep2_length];exact Nat.le_refl _),List.append_nil]
theorem lentC_step (es:List Pr)(d k:Nat)(s:ByteArray)(hk:k<d):((lentC es d k s).set ((es.length+k)*2) (.string s)).set ((es.length+k)*2+1) (.string ⟨#[]⟩)=lentC es d (k+1) s:=by
 have hp:=prC_length es
 unfold lentC
 rw[show (es.length+k)*2=es.length*2+k*2 from by omega,show es.length*2+k*2+1=es.length*2+(k*2+1) from by omega,set_right hp,set_right hp,rep2_step d k _ s (rep2_length d _) hk]
theorem lentC_at (es:List Pr)(d k:Nat)(s:ByteArray)(hk:k<d):(lentC es d k s)[(es.length+k)*2]? = some (.string ⟨#[]⟩)∧(lentC es d k s)[(es.length+k)*2+1]? = some (.string ⟨#[]⟩):=by
 have hp:=prC_length es
 have hr:=rep2_length k s
 unfold lentC
 have e:∀j,j=0∨j=1→(prC es++(rep2 k s++(rep2 d ⟨#[]⟩).drop (k*2)))[(es.length+k)*2+j]? = some (.string ⟨#[]⟩):=fun j hj=>by
  rw[List.getElem?_append_right (by omega),hp,show (es.length+k)*2+j - es.length*2=k*2+j from by omega,List.getElem?_append_right (by omega),hr,Nat.add_sub_cancel_left,List.getElem?_drop,rep2_zero,List.getElem?_replicate,if_pos (by omega)]
 exact⟨e 0 (.inl rfl),e 1 (.inr rfl)⟩
theorem copy_lent (t ts:TypeId)(hu:Tryz.prog.underlying ts=some (.slice t))(hsz:(Tryz.prog.info? t).map (·.size)=some 2)(ao:Option Addr)(cap d:Nat)(es:List Pr)(w:World)(g:Nat)(hg:w.heap[g]? = some (.cells (rep2 (es.length+d) ⟨#[]⟩).toArray t (0,0)))(hp:Prs w ao es) :
  ∃W1,(Builtin.copy_ #[ts,ts] 3 #[.slice (some ⟨g,0,none⟩) (es.length+d) (es.length+d),.slice ao es.length cap]).run Tryz.prog w=.ok (.int .i64 (es.length:Int)) W1∧W1.heap[g]? = some (.cells (lentC es d 0 lentS).toArray t (0,0))∧(∀k,k≠g→W1.heap[k]? = w.heap[k]?)∧W1.heap.size=w.heap.size∧W1.os=w.os∧W1.tape=w.tape∧W1.output=w.output:=by
 have hrow:(lentC es d 0 lentS)=prC es++rep2 d ⟨#[]⟩:=by simp[lentC,rep2]
 rw[hrow]
 by_cases h0:es.length=0
 ·obtain rfl:=List.eq_nil_of_length_eq_zero h0
  have h:=run_copy_none2 (P:=Tryz.prog) w ts ts 3 t (some ⟨g,0,none⟩) ao (0+d) (0+d) 0 cap hu hsz (by simp)
  refine⟨w,h,?_,fun _ _=>rfl,rfl,rfl,rfl,rfl⟩
  rw[hg];simp[prC]
 ·obtain⟨b,o,rfl,_,_⟩:=hp 0 (by omega)
  have hmin:Nat.min es.length (es.length+d)=es.length:=Nat.min_eq_left (by omega)
  have h:=run_copy_row2 (P:=Tryz.prog) w ts ts 3 t g 0 (es.length+d) (es.length+d) ⟨b,o,none⟩ es.length cap (rep2 (es.length+d) ⟨#[]⟩).toArray t (prC es) hu hsz hg (by rw[hmin,prC_length]) (prs_news hp) (by rw[prC_length];simp[rep2_length];omega) prC_one
  rw[hmin] at h
  refine⟨_,h,?_,fun k hk=>by rw[setRow_other _ _ _ _ hk],by rw[setRow_size],rfl,rfl,rfl⟩
  rw[setRow_heap w _ _ _ _ _ hg]
  have e:((rep2 (es.length+d) ⟨#[]⟩).toArray.toList.take 0++prC es++(rep2 (es.length+d) ⟨#[]⟩).toArray.toList.drop (0+(prC es).length))=prC es++rep2 d ⟨#[]⟩:=by
   rw[Nat.zero_add,prC_length,List.take_zero,List.nil_append,rep2_zero,rep2_zero]
   show _++List.drop _ (List.replicate _ _)=_
   rw[List.drop_replicate,show (es.length+d)*2 - es.length*2=d*2 from by omega]
  rw[e]
theorem lend_any (b:Value)(ao:Option Addr)(cap:Nat)(es:List Pr)(w:World)(hp:Prs w ao es)(hl:es.length≤100000000) :
  Calls Tryz.prog 23 #[b,.slice ao es.length cap] w fun e w' => e=.returned (.slice (some ⟨w.heap.size,0,none⟩) es.length (es.length+3))∧w'.heap[w.heap.size]? = some (.cells (prC es++rep2 3 lentS).toArray 125 (0,0))∧Below w.heap.size w w' := by
 have hmk:=make_any2 (P:=Tryz.prog) w 22 125 Tryz.underlying22 infoEnt (es.length+3) (by omega)
 have HR0:=heap_alloc_new w (.cells (rep2 (es.length+3) ⟨#[]⟩).toArray 125)
 have HB0:=below_alloc w (.cells (rep2 (es.length+3) ⟨#[]⟩).toArray 125)
 obtain⟨W1,hcp,hr1,ho1,hs1,k1,k2,k3⟩:=copy_lent 125 22 Tryz.underlying22 sizeEnt ao cap 3 es _ _ HR0 (hp.keep HB0)
 have HB1:Hid (Below w.heap.size w W1):=⟨k1.trans HB0.os,k2.trans HB0.tape,k3.trans HB0.output,by rw[hs1];exact HB0.size,fun k hk=>by rw[ho1 k (by omega)];exact HB0.block k hk⟩
 have HR1:=hide hr1
 have HFull:=hide (lentC_full es 3 lentS)
 have HStep:=hide (fun k hk=>lentC_step es 3 k lentS hk)
 have HAt:=hide (fun k hk=>lentC_at es 3 k lentS hk)
 generalize (w.alloc (.cells (rep2 (es.length+3) ⟨#[]⟩).toArray 125))=W0 at *
 clear hr1 ho1 hs1 k1 k2 k3 HB0 HR0 hp
 obtain⟨n,hn⟩:∃n,es.length=n:=⟨_,rfl⟩
 rw[hn] at hmk hcp hl HStep HAt ⊢
 clear hn
 have e3:((n+3:Nat):Int)=(n:Int)+3:=by omega
 rw[e3] at hmk
 clear e3
 go_enter Tryz.func23,Tryz.ntmps23
 go_wp2_with fail
 clear hmk hcp
 go_loopw [6] (fun iv wr=>∃k:Nat,k≤3∧iv=.int .i64 ((n+k:Nat):Int)∧wr.heap[w.heap.size]? = some (.cells (lentC es 3 k lentS).toArray 125 (0,0))∧Below w.heap.size w wr) (fun iv _=>n+3 - (intOf iv).toNat)
 case atStart=>exact⟨0,by omega,rfl,HR1.out,HB1.out⟩
 case round =>
  obtain⟨k,hk,rfl,hrow,hbw⟩:=hrel
  have HR:=hide hrow
  have HB:=hide hbw
  by_cases h3:k<3
  ·obtain⟨a1,a2⟩:=HAt.out k h3
   have c1:=(cell_row hrow _).trans a1
   have c2:=(cell_row hrow _).trans a2
   have f1:∀j,wr.frozen? ⟨w.heap.size,j,none⟩=false:=fun j=>frozen_of_row _ _ j _ _ hrow
   have HSt:=hide (HStep.out k h3)
   generalize hnk:n+k=i at *
   have i0:(0:Int)≤(i:Int):=by omega
   have i1:(i:Int)<(n:Int)+3:=by omega
   clear hrow hbw a1 a2
   go_wp2
   go_roundw
   case rel=>exact⟨k+1,by omega,by go_num,by rw[←HSt.out];exact set_row2 HR.out _ _ _ _,below_set2 HB.out (Nat.le_refl _) _ _ _ _⟩
   case measure=>simp[intOf];omega
  ·obtain rfl:k=3:=by omega
   clear hrow hbw
   have i1:((n+3:Nat):Int)=(n:Int)+3:=by omega
   rw[i1]
   go_wp2
   go_ret
   exact⟨rfl,by rw[←HFull.out];exact HR.out,HB.out⟩
def slN (g n:Nat):Value:=.slice (some ⟨g,0,none⟩) n n
theorem back_any (b g lo N:Nat)(v:Value)(gs:List Value)(ao:Option Addr)(cap:Nat)(es:List Pr)(w:World)(hv:w.cell? ⟨b,5,none⟩=some v)(hf:w.frozen? ⟨b,5,none⟩=false)(hg:w.heap[g]? = some (.cells (prC es++rep2 3 lentS).toArray 125 (0,0)))(hbg:b≠g)(hp:Prs w ao es)(hl:es.length≤2000000)
  (hown:w.ownsRow lo 22 1 v N gs) (hlo:lo≤w.heap.size) (hbv:some b≠v.ownBlock) (hgv:some g≠v.ownBlock) (hn:N≤1000000) :
  Calls Tryz.prog 25 #[.pointer (some ⟨b,0,none⟩),.slice (some ⟨g,0,none⟩) es.length (es.length+3),.slice ao es.length cap] w fun e w' => ∃v' W,e=.returned (.bool true)∧w' = W.setCell ⟨b,5,none⟩ v' ∧ Ex (fun k=>k=g∨some k=v.ownBlock) w W∧W.heap[g]? = some (.cells (rep2 (es.length+3) (markS N)).toArray 125 (0,0))∧W.ownsRow lo 22 1 v' (N+1) (gs++[slN g (es.length+3)])∧∀k,v'.ownBlock=some k→v.ownBlock=some k∨w.heap.size≤k:=by
 obtain⟨i0,hi,hz0,hz1,hz2⟩:=info_parts infoEs
 obtain⟨va,vc,rfl⟩:∃va vc,v=.slice va N vc:=by
  rcases hown.2 with⟨h1,h2⟩|⟨g,c,cur,h1,_⟩
  ·exact⟨none,0,by rw[h1,h2]⟩
  ·exact⟨_,_,h1⟩
 have HG:=hide hg
 have HO:=hide hown
 have HP:=hide hp
 have HL1:Hid (∀i,i<es.length→(prC es++rep2 3 lentS)[i*2]? = some (.string (es.getD i pr0).1)∧(prC es++rep2 3 lentS)[i*2+1]? = some (.string (es.getD i pr0).2)):=fun i h=>by
  have hp:=prC_length es
  rw[List.getElem?_append_left (by omega),List.getElem?_append_left (by omega)]
  exact prC_get es i h
 have HL2:Hid (∀k,k<3→(prC es++rep2 3 lentS)[(es.length+k)*2]? = some (.string lentS)∧(prC es++rep2 3 lentS)[(es.length+k)*2+1]? = some (.string ⟨#[]⟩)):=fun k h=>by
  have hp:=prC_length es
  rw[List.getElem?_append_right (by omega),List.getElem?_append_right (by omega),hp,show (es.length+k)*2 - es.length*2=k*2 from by omega,show (es.length+k)*2+1 - es.length*2=k*2+1 from by omega]
  exact rep2_get lentS 3 k h
 have HLn:Hid ((prC es++rep2 3 lentS).length=(es.length+3)*2):=by show _=_;rw[List.length_append,prC_length,rep2_length];omega
 clear hg hown hp
 obtain⟨n,hnn⟩:∃n,es.length=n:=⟨_,rfl⟩
 have HNN:=hide hnn
 rw[hnn] at hl HL1 HL2 HLn ⊢
 clear hnn
 go_enter Tryz.func25,Tryz.ntmps25
 go_wp2_with fail
 go_loopw [7] (fun iv wr=>∃i:Nat,i≤n∧iv=.int .i64 (i:Int)∧Below w.heap.size w wr) (fun iv _=>n - (intOf iv).toNat)
 case atStart=>exact⟨0,by omega,rfl,Below.refl _ _⟩
 case round =>
  obtain⟨i,hin,rfl,hbw⟩:=hrel
  have HB:=hide hbw
  have j0:(0:Int)≤(i:Int):=by omega
  by_cases hil:i<n
  ·have j1:(i:Int)<(n:Int):=by omega
   have j2:(i:Int)<(n:Int)+3:=by omega
   obtain⟨pb,po,rfl,x0,x1⟩:=HP.out.keep hbw i (by rw[HNN.out];exact hil)
   have hgw:wr.heap[g]? = some (.cells (prC es++rep2 3 lentS).toArray 125 (0,0)):=(hbw.block g (aGe.1 HG.out).1).trans HG.out
   obtain⟨a1,a2⟩:=HL1.out i hil
   have y0:=(cell_row hgw _).trans a1
   have y1:=(cell_row hgw _).trans a2
   generalize es.getD i pr0=q at *
   obtain⟨k,x⟩:=q
   dsimp only at x0 x1 y0 y1
   clear hbw hgw a1 a2
   go_wp2
   go_quiet (fail)
   go_wp2
   go_roundw
   case rel=>exact⟨i+1,by omega,by go_num,below_drewN HB.out _⟩
   case measure=>simp[intOf];omega
  ·obtain rfl:i=n:=by omega
   have HK1:Hid (wr.cell? ⟨b,5,none⟩=some (.slice va N vc)∧wr.frozen? ⟨b,5,none⟩=false∧wr.heap[g]? = some (.cells (prC es++rep2 3 lentS).toArray 125 (0,0))∧wr.ownsRow lo 22 1 (.slice va N vc) N gs∧lo≤wr.heap.size) :=
    ⟨(hbw.cell (p:=⟨b,5,none⟩) (World.block_lt_of_cell? w _ hv)).trans hv,(World.frozen?_of_block (a:=⟨b,5,none⟩) (hbw.block b (World.block_lt_of_cell? w _ hv))).trans hf,(hbw.block g (aGe.1 HG.out).1).trans HG.out,own_far HO.out (fun k _ hk=>hbw.block k hk),Nat.le_trans hlo hbw.size⟩
   clear hbw hv hf HG HO hlo
   have j2:(i:Int)+3≤(i:Int)+3:=by omega
   go_wp2_with fail
   go_loopw [9] (fun iv wr' => ∃k:Nat,k≤3∧iv=.int .i64 ((i+k:Nat):Int)∧wr' = wr) (fun iv _=>i+3 - (intOf iv).toNat)
   case atStart=>exact⟨0,by omega,rfl,rfl⟩
   case round =>
    obtain⟨k,hk3,rfl,rfl⟩:=hrel
    by_cases h3:k<3
    ·obtain⟨a1,a2⟩:=HL2.out k h3
     have c1:=(cell_row HK1.out.2.2.1 _).trans a1
     have c2:=(cell_row HK1.out.2.2.1 _).trans a2
     unfold lentS at c1
     generalize hnk:i+k=z at *
     have j4:(0:Int)≤(z:Int):=by omega
     have j5:(z:Int)<(i:Int)+3:=by omega
     clear a1 a2
     go_wp2
     go_roundw
     case rel=>exact⟨k+1,by omega,by go_num,trivial⟩
     case measure=>simp[intOf];omega
    ·obtain rfl:k=3:=by omega
     rename World=>A
     have i3:((i+3:Nat):Int)=(i:Int)+3:=by omega
     rw[i3]
     have HM:=hide (fun W=>mark_any N W (by omega))
     have HLt:Hid (g<A.heap.size):=(aGe.1 HK1.out.2.2.1).1
     have HBt:Hid (b<A.heap.size):=World.block_lt_of_cell? A _ HK1.out.1
     have v5:=HK1.out.1
     clear i3
     go_wp2_with fail
     refine (HM.out _).mono ?_
     rintro e w1 ⟨rfl,hb1⟩
     have HB1:=hide hb1
     clear hb1 v5
     obtain⟨M,hM⟩:∃M,markS N=M:=⟨_,rfl⟩
     rw[hM]
     have HMM:=hide hM
     clear hM
     have HNw:Hid ((w1.alloc (.cells #[.string M,.string ⟨#[]⟩] 125)).heap[w1.heap.size]? = some (.cells #[.string M,.string ⟨#[]⟩] 125 (0,0))):=heap_alloc_new _ _
     have HB2:Hid (Below A.heap.size A (w1.alloc (.cells #[.string M,.string ⟨#[]⟩] 125))):=HB1.out.alloc HB1.out.size _
     have HR0:Hid ((w1.alloc (.cells #[.string M,.string ⟨#[]⟩] 125)).heap[g]? = some (.cells (rep2 0 M++(prC es++rep2 3 lentS).drop (0 * 2)).toArray 125 (0,0))):=(HB2.out.block g HLt.out).trans HK1.out.2.2.1
     have hX:Hid (A.heap.size≤w1.heap.size):=HB1.out.size
     go_wp2_with fail
     generalize (w1.alloc (.cells #[.string M,.string ⟨#[]⟩] 125))=W2 at *
     generalize w1.heap.size=X at *
     go_loopw [11] (fun iv W=>∃k:Nat,k≤i+3∧iv=.int .i64 (k:Int)∧W.heap[g]? = some (.cells (rep2 k M++(prC es++rep2 3 lentS).drop (k*2)).toArray 125 (0,0))∧W.heap[X]? = some (.cells #[.string M,.string ⟨#[]⟩] 125 (0,0))∧Ex (fun k=>k=g) A W) (fun iv _=>i+3 - (intOf iv).toNat)
     case atStart=>exact⟨0,by omega,rfl,HR0.out,HNw.out,Ex.of_below HB2.out⟩
     case round =>
      obtain⟨k,hk3,rfl,hrow,hbox,hex⟩:=hrel
      have HR:=hide hrow
      have HX:=hide hbox
      have HE:=hide hex
      have j0:(0:Int)≤(k:Int):=by omega
      by_cases h3:k<i+3
      ·have j1:(k:Int)<(i:Int)+3:=by omega
       have HSt:=hide (rep2_step (i+3) k (prC es++rep2 3 lentS) M HLn.out h3)
       have hln:(rep2 k M++(prC es++rep2 3 lentS).drop (k*2)).length=(i+3)*2:=by
        rw[List.length_append,List.length_drop,rep2_length,HLn.out];omega
       obtain⟨u1,c1⟩:∃u,wr.cell? ⟨g,k*2,none⟩=some u:=by
        rw[cell_row hrow];exact⟨_,List.getElem?_eq_getElem (by omega)⟩
       obtain⟨u2,c2⟩:∃u,wr.cell? ⟨g,k*2+1,none⟩=some u:=by
        rw[cell_row hrow];exact⟨_,List.getElem?_eq_getElem (by omega)⟩
       have f1:∀j,wr.frozen? ⟨g,j,none⟩=false:=fun j=>frozen_of_row _ _ j _ _ hrow
       have b1:wr.cell? ⟨X,0,none⟩=some (.string M):=cell_of_row _ _ 0 _ _ (0,0) hbox
       have b2:wr.cell? ⟨X,1,none⟩=some (.string ⟨#[]⟩):=cell_of_row _ _ 1 _ _ (0,0) hbox
       clear hrow hbox hex hln
       go_wp2
       go_roundw
       case rel =>
        refine⟨k+1,by omega,by go_num,by rw[←HSt.out];exact set_row2 HR.out _ _ _ _,?_,(HE.out.set (p:=⟨g,k*2,none⟩) (.inl rfl) _).set (p:=⟨g,k*2+1,none⟩) (.inl rfl) _⟩
        have hXg:X≠g:=by have:=hX.out;have:=HLt.out;omega
        rw[heap_setCell_other _ _ _ _ (by exact hXg),heap_setCell_other _ _ _ _ (by exact hXg)]
        exact HX.out
       case measure=>simp[intOf];omega
      ·obtain rfl:k=i+3:=by omega
       have y5:wr.cell? ⟨b,5,none⟩=some (.slice va N vc):=by
        rw[←HK1.out.1];unfold World.cell?;rw[HE.out.block b HBt.out hbg]
       have f5:wr.frozen? ⟨b,5,none⟩=false:=by
        rw[←HK1.out.2.1];unfold World.frozen?;rw[HE.out.block b HBt.out hbg]
       have hown2:wr.ownsRow lo 22 1 (.slice va N vc) N gs:=own_far HK1.out.2.2.2.1 (fun q hq hql=>HE.out.block q hql (fun e=>hgv (by rw[hq,←e])))
       have HO2:=hide (hown2.alloc (.cells #[slN g (i+3)] 22))
       have HW2:Hid ((wr.alloc (.cells #[slN g (i+3)] 22)).heap[wr.heap.size]? = some (.cells #[slN g (i+3)] 22 (0,0))):=heap_alloc_new _ _
       have HRf:Hid (wr.heap[g]? = some (.cells (rep2 (i+3) M).toArray 125 (0,0))):=by
        have h:=hrow
        rw[List.drop_eq_nil_of_le (by rw[HLn.out];exact Nat.le_refl _),List.append_nil] at h
        exact h
       clear hrow hbox hex hown2
       have HNews:Hid (∀j u,[slN g (i+3)][j]? = some u→(wr.alloc (.cells #[slN g (i+3)] 22)).cell? ((⟨wr.heap.size,0,none⟩:Addr).add j)=some u):=World.news_of_block HW2.out
       have HLo:Hid (lo≤(wr.alloc (.cells #[slN g (i+3)] 22)).heap.size):=by show _≤_;have:=HE.out.size;have:=HK1.out.2.2.2.2;simp;omega
       have HY:Hid (∀w4:World,(wr.alloc (.cells #[slN g (i+3)] 22)).grownBy w4 (Value.slice va N vc).ownBlock→w4.cell? ⟨b,5,none⟩=some (.slice va N vc)∧w4.frozen? ⟨b,5,none⟩=false):=fun w4 h=>by
        have h1:=HE.out.size
        have h2:=HBt.out
        have hb4:w4.heap[b]? = wr.heap[b]?:=by rw[h.block b (by simp;omega) hbv,Below.heap_alloc _ _ _ (show b<wr.heap.size by omega)]
        exact⟨(World.cell?_of_block hb4).trans y5,(World.frozen?_of_block hb4).trans f5⟩
       clear HW2
       have i3:((i+3:Nat):Int)=(i:Int)+3:=by omega
       unfold slN at *
       rw[i3]
       go_wp2_with (at_builtin;go_must (refine wpList_append_lies _ rfl (.tmp 67) (.tmp 69) 46 rfl lo 22 i0 _ 1 24 Tryz.underlying46 hi hz0 hz1 hz2 rfl (by omega) (.slice va N vc) N _ rfl HO2.out ⟨wr.heap.size,0,none⟩ 1 1 [.slice (some ⟨g,0,none⟩) (i+3) (i+3)] rfl rfl HNews.out (by simp[Value.oneCell']) (by omega) (by unfold maxLen;omega) (by omega) HLo.out _ rfl ?_);intro g4 c4 w4 ho4 hg4 hat4 hlt4;go_must (have HX4:=hide (And.intro ho4 hg4));go_must (have HA4:=hide hat4);clear ho4 hg4 hat4 hlt4;go_must (obtain⟨y54,f54⟩:=HY.out w4 HX4.out.2))
       go_ret
       have hBA:Below w.heap.size w A:=HB.out
       refine⟨_,w4,rfl,rfl,?_,?_,HX4.out.1,?_⟩
       ·refine (Ex.of_below hBA).trans ⟨HX4.out.2.os.trans HE.out.os,HX4.out.2.tape.trans HE.out.tape,HX4.out.2.output.trans HE.out.output,?_,fun k hk hx=>?_⟩
        ·have h1:=HX4.out.2.size
         have h2:=HE.out.size
         simp at h1
         omega
        ·have h2:=HE.out.size
         rw[HX4.out.2.block k (by simp;omega) (fun e=>hx (.inr e)),Below.heap_alloc _ _ _ (by omega)]
         exact HE.out.block k hk (fun e=>hx (.inl e))
       ·have h2:=HE.out.size
        have h3:=HLt.out
        rw[HX4.out.2.block g (by simp;omega) hgv,Below.heap_alloc _ _ _ (by omega),HMM.out]
        exact HRf.out
       ·intro k hk
        obtain rfl:g4=k:=by simpa[Value.ownBlock] using hk
        rcases HA4.out with h|h
        ·exact .inl h
        ·right
         have h1:=HE.out.size
         have h2:=hBA.size
         simp at h
         omega
structure MadeOut (lo B:Nat)(cs:Array Value)(v6:Value)(r6:List (Value×Nat))(n:Nat)(w w' : World)(v6' : Value)(g:Nat):Prop where
 box:w'.heap[B]? = some (.cells (cs.setIfInBounds 5 v6') 55 (0,0))
 rows:Rows2 125 22 1 lo w' v6' (r6++[(slN g (n+3),n+3)])
 own:∀k,v6'.ownBlock=some k→v6.ownBlock=some k∨w.heap.size≤k
 ex:Ex (fun k=>k=B∨some k=v6.ownBlock) w w'
theorem made_fin {lo B:Nat}{cs:Array Value}{v6 v' x r:Value}{r6:List (Value×Nat)}{n g:Nat}{w w3 W:World}(hB:w.heap[B]? = some (.cells cs 55 (0,0)))(hr6:Rows2 125 22 1 lo w v6 r6)(hn:n≤2000000)
  (hb3:Below w.heap.size w w3) (hg:g=w.heap.size+1) (hg3:g<w3.heap.size) (hbx:w3.heap[w.heap.size]? = some (.cells #[.pointer none,.pointer none] 51 (0,0)))
  (hex:Ex (fun k=>k=g∨some k=v6.ownBlock) w3 W) (hrow:W.heap[g]? = some (.cells (rep2 (n+3) (markS r6.length)).toArray 125 (0,0))) (hown:W.ownsRow lo 22 1 v' (r6.length+1) (r6.map Prod.fst++[slN g (n+3)])) (hob:∀k,v'.ownBlock=some k→v6.ownBlock=some k∨w3.heap.size≤k) :
  MadeOut lo B cs v6 r6 n w (((W.setCell ⟨B,5,none⟩ v').setCell ⟨w.heap.size,0,none⟩ x).setCell ⟨w.heap.size,1,none⟩ r) v' g ∧
  (∀k,g<k→k<w3.heap.size→(((W.setCell ⟨B,5,none⟩ v').setCell ⟨w.heap.size,0,none⟩ x).setCell ⟨w.heap.size,1,none⟩ r).heap[k]? = w3.heap[k]?) ∧
  (((W.setCell ⟨B,5,none⟩ v').setCell ⟨w.heap.size,0,none⟩ x).setCell ⟨w.heap.size,1,none⟩ r).heap[w.heap.size]? = some (.cells #[x,r] 51 (0,0)):=by
 have hBl:B<w.heap.size:=(aGe.1 hB).1
 have hvl:∀k,some k=v6.ownBlock→k<w.heap.size:=fun k e=>(hr6.own.lt k e.symm).2
 have s3:=hb3.size
 have sW:=hex.size
 have hoth:∀k,k≠B→k≠w.heap.size→(((W.setCell ⟨B,5,none⟩ v').setCell ⟨w.heap.size,0,none⟩ x).setCell ⟨w.heap.size,1,none⟩ r).heap[k]? = W.heap[k]?:=fun k h1 h2=>by
  rw[heap_setCell_other _ _ _ _ (by exact h2),heap_setCell_other _ _ _ _ (by exact h2),heap_setCell_other _ _ _ _ (by exact h1)]
 have hvB:∀k,some k=v6.ownBlock→k≠B:=fun k e e2=>by
  obtain⟨_,cur,hc⟩:=ownsRow_type hr6.own k e.symm
  rw[e2,hB] at hc
  injection hc with hc
  injection hc with _ hc _
  exact absurd hc (by decide)
 have hBW:W.heap[B]? = some (.cells cs 55 (0,0)):=by
  rw[hex.block B (by omega) (fun h=>by
   rcases h with h|h
   ·omega
   ·exact hvB B h rfl),hb3.block B hBl]
  exact hB
 have hxW:(W.setCell ⟨B,5,none⟩ v').heap[w.heap.size]? = some (.cells #[.pointer none,.pointer none] 51 (0,0)):=by
  rw[heap_setCell_other _ _ _ _ (by show w.heap.size≠B;omega),hex.block _ (aGe.1 hbx).1 (fun h=>by
   rcases h with h|h
   ·omega
   ·have:=hvl _ h;omega)]
  exact hbx
 have hrows:∀(k:Nat) (cur:Array Value) (t:TypeId),(t=125∨t=22)→W.heap[k]? = some (.cells cur t (0,0))→(((W.setCell ⟨B,5,none⟩ v').setCell ⟨w.heap.size,0,none⟩ x).setCell ⟨w.heap.size,1,none⟩ r).heap[k]? = W.heap[k]?:=fun k cur t ht hk=>by
  refine hoth k (fun e=>?_) (fun e=>?_)
  ·rw[e,hBW] at hk
   injection hk with hk
   injection hk with _ hk _
   rcases ht with ht|ht<;>rw[ht] at hk<;>exact absurd hk (by decide)
  ·rw[heap_setCell_other _ _ _ _ (by show w.heap.size≠B;omega)] at hxW
   rw[e,hxW] at hk
   injection hk with hk
   injection hk with _ hk _
   rcases ht with ht|ht<;>rw[ht] at hk<;>exact absurd hk (by decide)
 have hfin:(((W.setCell ⟨B,5,none⟩ v').setCell ⟨w.heap.size,0,none⟩ x).setCell ⟨w.heap.size,1,none⟩ r).heap[B]? = some (.cells (cs.setIfInBounds 5 v') 55 (0,0)):=by
  have hne:B≠w.heap.size:=by omega
  rw[heap_setCell_other _ _ _ _ (by exact hne),heap_setCell_other _ _ _ _ (by exact hne)]
  exact heap_setCell_same _ B 5 _ _ v' hBW
 refine⟨⟨hfin,?_,?_,?_⟩,?_,?_⟩
 ·refine Rows2.far (w:=W) ⟨by rw[List.length_append,List.map_append];exact hown,fun i hi=>?_,fun q hq=>?_⟩ hrows
  ·rw[Nat.div_one]
   by_cases hil:i<r6.length
   ·rw[List.getElem_append_left hil]
    have h:=hr6.marks i hil
    rw[Nat.div_one] at h
    refine (h.far (w' := w3) (fun k cur _ hk=>hb3.block k (aGe.1 hk).1)).far (fun k cur hk hc=>?_)
    have hkw:k<w.heap.size:=by
     rcases h with⟨e,_⟩|⟨g', c', e,⟨cur', h'⟩,_⟩
     ·rw[e] at hk;cases hk
     ·rw[e] at hk
      obtain rfl:g' = k:=by simpa[Value.ownBlock] using hk
      exact (aGe.1 h').1
    refine hex.block k (by omega) (fun hx=>?_)
    rcases hx with hx|hx
    ·omega
    ·obtain⟨_,cur2,hc2⟩:=ownsRow_type hr6.own k hx.symm
     rw[hb3.block k hkw,hc2] at hc
     injection hc with hc
     injection hc with _ hc _
     exact absurd hc (by decide)
   ·obtain rfl:i=r6.length:=by simp at hi;omega
    rw[List.getElem_append_right (Nat.le_refl _)]
    simp only[Nat.sub_self,List.getElem_cons_zero]
    exact .inr ⟨g,n+3,rfl,⟨_,hrow⟩,fun j u hj=>by rw[cell_row hrow];exact hj⟩
  ·rcases List.mem_append.1 hq with h|h
   ·exact hr6.short q h
   ·simp at h
    rw[h]
    show n+3≤3000000
    omega
 ·exact fun k hk=>(hob k hk).imp id (fun h=>by omega)
 ·have e1:Ex (fun k=>k=B∨some k=v6.ownBlock) w W:=by
   refine⟨hex.os.trans hb3.os,hex.tape.trans hb3.tape,hex.output.trans hb3.output,by omega,fun k hk hx=>?_⟩
   rw[hex.block k (by omega) (fun h=>by
    rcases h with h|h
    ·omega
    ·exact hx (.inr h))]
   exact hb3.block k hk
  exact ((e1.set (p:=⟨B,5,none⟩) (.inl (.inl rfl)) v').set (p:=⟨w.heap.size,0,none⟩) (.inr (Nat.le_refl _)) x).set (p:=⟨w.heap.size,1,none⟩) (.inr (Nat.le_refl _)) r
 ·intro k hk hk3
  rw[hoth k (by omega) (by omega),hex.block k hk3 (fun h=>by
   rcases h with h|h
   ·omega
   ·have:=hvl _ h;omega)]
 ·exact heap_setCell_same _ _ 1 _ _ r (heap_setCell_same _ _ 0 _ _ x hxW)
def MadeTwin (es:List Pr)(w w' : World)(x r:Value):Prop:=(x=.pointer none∧r=.pointer none)∨∃T M R S,x=ptr T∧r=ptr R∧w.heap.size≤T∧w.heap.size≤R∧T≠M∧w.heap.size≤M∧StoreAt w' M es∧TreeAt HkC (fun _=>False) w' T (.map (some M)) .nil∧w'.heap[R]? = some (.cells #[ptr S,.slice none 0 0] 77 (0,0))∧w.heap.size≤S∧R≠S∧∃sv,w'.heap[S]? = some (.cells #[sv,.bool false] 74 (0,0))∧w'.ownsRow w.heap.size 125 2 sv es.length (prC es)
theorem made_any (lo B:Nat)(cs:Array Value)(v6:Value)(r6:List (Value×Nat))(ao:Option Addr)(cap:Nat)(es:List Pr)(w:World)(hlo:lo≤w.heap.size)(hB:w.heap[B]? = some (.cells cs 55 (0,0)))(hc5:cs[5]? = some v6)(hr6:Rows2 125 22 1 lo w v6 r6)(hp:Prs w ao es)(hl:es.length≤2000000)(hs:∀p∈es,p.1.size≤100000000∧p.2.size≤100000000)(hm:r6.length≤1000) :
  Calls Tryz.prog 13 #[.pointer (some ⟨B,0,none⟩),.slice ao es.length cap] w fun e w' => ∃x r v6' g,e=.returned (.tuple #[.agg #[x,r],.bool true])∧MadeOut lo B cs v6 r6 es.length w w' v6' g∧MadeTwin es w w' x r:=by
 have HB:=hide hB
 have HC5:=hide hc5
 have HR6:=hide hr6
 have HP:=hide hp
 have HLo:=hide hlo
 have HL:=hide (fun b W hW=>lend_any b ao cap es W (hp.keep hW) (by omega))
 have HN:=hide (fun ao' cap' W hW=>cNew_any HkC ao' cap' es W hW (by omega) hs)
 have HR:=hide (fun W hW=>refNew_any ao cap es W (hp.keep hW) (by omega))
 have HU:=hide num_any
 have HHl:=hide hl
 clear hB hc5 hr6 hp hlo hs hl
 go_enter Tryz.func13,Tryz.ntmps13
 have HBox:Hid ((w.alloc (.cells #[.pointer none,.pointer none] 51)).heap[w.heap.size]? = some (.cells #[.pointer none,.pointer none] 51 (0,0))):=heap_alloc_new _ _
 have HB0:=hide (below_alloc w (.cells #[.pointer none,.pointer none] 51))
 have HS0:Hid ((w.alloc (.cells #[.pointer none,.pointer none] 51)).heap.size=w.heap.size+1):=World.size_alloc _ _
 go_wp2_with fail
 generalize (w.alloc (.cells #[.pointer none,.pointer none] 51))=W0 at *
 refine (HL.out _ _ HB0.out).mono ?_
 rintro e w1 ⟨rfl,hg1,hb1⟩
 have HG1:=hide hg1
 have HB1:=hide hb1
 obtain⟨g,hg⟩:∃g,W0.heap.size=g:=⟨_,rfl⟩
 rw[hg] at HG1 ⊢
 have HGw:Hid (g=w.heap.size+1):=by show _=_;have:=HS0.out;omega
 have HGg:=hide hg
 clear hg1 hb1 hg HL
 have HPs1:Hid (Prs w1 (some ⟨g,0,none⟩) es):=fun i hi=>by
  have hpl:=prC_length es
  obtain⟨a1,a2⟩:=prC_get es i hi
  refine⟨g,0,rfl,?_,?_⟩
  ·rw[Nat.zero_add,cell_row HG1.out,List.getElem?_append_left (by omega)];exact a1
  ·rw[Nat.zero_add,cell_row HG1.out,List.getElem?_append_left (by omega)];exact a2
 go_wp2_with fail
 refine (HN.out _ _ _ HPs1.out).mono ?_
 rintro e w2 ⟨hb2,hcase⟩
 have HB2:=hide hb2
 have HBw2:Hid (Below w.heap.size w w2):=(HB0.out.trans (HB1.out.mono HB0.out.size)).trans (hb2.mono (by have:=HB0.out.size;have:=HB1.out.size;omega))
 clear hb2 HN
 have HGw2:Hid (w2.heap[g]? = some (.cells (prC es++rep2 3 lentS).toArray 125 (0,0))∧w2.heap[w.heap.size]? = some (.cells #[.pointer none,.pointer none] 51 (0,0))) :=
  ⟨(HB2.out.block g (aGe.1 HG1.out).1).trans HG1.out,((HB2.out.block _ (by have:=HB1.out.size;have:=(aGe.1 HBox.out).1;omega)).trans (HB1.out.block _ (aGe.1 HBox.out).1)).trans HBox.out⟩
 have HBack:Hid (∀w3:World,Below w2.heap.size w2 w3→Calls Tryz.prog 25 #[.pointer (some ⟨B,0,none⟩),.slice (some ⟨g,0,none⟩) es.length (es.length+3),.slice ao es.length cap] w3 fun e w' => ∃(v' : Value) (W:World),e=.returned (.bool true)∧w' = W.setCell ⟨B,5,none⟩ v' ∧ W.heap[w.heap.size]? = some (.cells #[.pointer none,.pointer none] 51 (0,0))∧w.heap.size≠B∧∀x r,MadeOut lo B cs v6 r6 es.length w (((W.setCell ⟨B,5,none⟩ v').setCell ⟨w.heap.size,0,none⟩ x).setCell ⟨w.heap.size,1,none⟩ r) v' g ∧
   (∀k,g<k→k<w3.heap.size→(((W.setCell ⟨B,5,none⟩ v').setCell ⟨w.heap.size,0,none⟩ x).setCell ⟨w.heap.size,1,none⟩ r).heap[k]? = w3.heap[k]?) ∧
   (((W.setCell ⟨B,5,none⟩ v').setCell ⟨w.heap.size,0,none⟩ x).setCell ⟨w.heap.size,1,none⟩ r).heap[w.heap.size]? = some (.cells #[x,r] 51 (0,0))):=fun w3 hb3=>by
  have hbw:=HBw2.out.trans (hb3.mono HBw2.out.size)
  have hB3:=(hbw.block B (aGe.1 HB.out).1).trans HB.out
  have hg3:=(hb3.block g (aGe.1 HGw2.out.1).1).trans HGw2.out.1
  have hx3:=(hb3.block w.heap.size (aGe.1 HGw2.out.2).1).trans HGw2.out.2
  have hBl:=(aGe.1 HB.out).1
  have hgg:=HGw.out
  have hvl:∀k,v6.ownBlock=some k→k<w.heap.size:=fun k e=>(HR6.out.own.lt k e).2
  refine (back_any B g lo r6.length v6 (r6.map Prod.fst) ao cap es w3 ((cell_of_row _ _ 5 _ _ (0,0) hB3).trans HC5.out) (frozen_of_row _ _ 5 _ _ hB3) hg3 (by omega) (HP.out.keep hbw) HHl.out (own_far HR6.out.own (fun k _ hk=>hbw.block k hk)) (by have:=HLo.out;have:=hbw.size;omega) (fun e=>?_) (fun e=>by have:=hvl g e.symm;omega) (by omega)).mono ?_
  ·obtain⟨_,cur,hc⟩:=ownsRow_type HR6.out.own B e.symm
   rw[HB.out] at hc
   injection hc with hc
   injection hc with _ hc _
   exact absurd hc (by decide)
  ·rintro e w4 ⟨v', W,rfl,rfl,hex,hrow,hown,hob⟩
   refine⟨v', W,rfl,rfl,?_,by omega,fun x r=>made_fin HB.out HR6.out HHl.out hbw hgg (aGe.1 hg3).1 hx3 hex hrow hown hob⟩
   rw[hex.block _ (aGe.1 hx3).1 (fun h=>by
    rcases h with h|h
    ·omega
    ·have:=hvl _ h.symm;omega)]
   exact hx3
 have HR2:=hide (HR.out w2 HBw2.out)
 have HGl:Hid (g<w1.heap.size∧w1.heap.size≤w2.heap.size):=⟨(aGe.1 HG1.out).1,HB2.out.size⟩
 clear HBox HB0 HS0 HG1 HB1 HPs1 HB2 HGg HGw2 HR HB HC5 HR6 HP HHl hm
 rcases hcase with⟨hne,rfl⟩|⟨hz,T,M,rfl,hM1,hM2,hT1,hTM,hst,htr⟩
 ·have HNe:=hide hne
  obtain⟨E,hE⟩:∃E,newErr es=E:=⟨_,rfl⟩
  rw[hE]
  have HE:=hide hE
  clear hne hE
  go_wp2_with fail
  refine HR2.out.mono ?_
  rintro e w3 ⟨hb3,hcase⟩
  rcases hcase with⟨_,rfl⟩|⟨hz,_⟩
  ·rw[HE.out]
   have HB3:=hide (HBack.out w3 hb3)
   clear hb3
   go_wp2_with fail
   refine HB3.out.mono ?_
   rintro e w4 ⟨v', W,rfl,rfl,hxW,hBne,hfin⟩
   have HF:=hide hfin
   have hxW4:(W.setCell ⟨B,5,none⟩ v').heap[w.heap.size]? = some (.cells #[.pointer none,.pointer none] 51 (0,0)):=by
    rw[heap_setCell_other _ _ _ _ (by exact hBne)];exact hxW
   have q0:(W.setCell ⟨B,5,none⟩ v').cell? ⟨w.heap.size,0,none⟩=some (.pointer none):=cell_of_row _ _ 0 _ _ (0,0) hxW4
   have q1:(W.setCell ⟨B,5,none⟩ v').cell? ⟨w.heap.size,1,none⟩=some (.pointer none):=cell_of_row _ _ 1 _ _ (0,0) hxW4
   have q2:∀j,(W.setCell ⟨B,5,none⟩ v').frozen? ⟨w.heap.size,j,none⟩=false:=fun j=>frozen_of_row _ _ j _ _ hxW4
   clear hfin hxW hxW4 hBne
   generalize hW4:W.setCell ⟨B,5,none⟩ v' = w4 at *
   clear hW4
   go_wp2_with fail
   refine (HU.out _ _).mono ?_
   rintro e w5 ⟨rfl,rfl⟩
   go_wp2
   obtain⟨f1,f2,f3⟩:=HF.out (.pointer none) (.pointer none)
   have t0:=cell_of_row _ _ 0 _ _ (0,0) f3
   have t1:=cell_of_row _ _ 1 _ _ (0,0) f3
   refine bodyPost_ret (v:=.tuple #[.agg #[.pointer none,.pointer none],.bool true]) (by simp[results,Tryz.results13,go_sem,t0,t1]) rfl ?_
   exact⟨_,_,v', g,rfl,f1,.inl ⟨rfl,rfl⟩⟩
  ·exact absurd hz HNe.out
 ·have HX:=hide (And.intro hz (And.intro hM1 (And.intro hM2 (And.intro hT1 (And.intro hTM (And.intro hst htr))))))
  have HTl:Hid (T<w2.heap.size):=htr.lt
  clear hM1 hM2 hT1 hTM hst htr
  unfold ptr
  go_wp2_with fail
  refine HR2.out.mono ?_
  rintro e w3 ⟨hb3,hcase⟩
  rcases hcase with⟨hne,_⟩|⟨_,R,S,rfl,hR1,hR2,hS1,hRS,sv,hS2,hsv⟩
  ·exact absurd hz hne
  ·unfold ptr at hR2
   unfold ptr
   have HY:=hide (And.intro hR1 (And.intro hR2 (And.intro hS1 (And.intro hRS (And.intro hS2 hsv)))))
   have HB3:=hide (HBack.out w3 hb3)
   have HB3' := hide hb3
   clear hb3 hz hR1 hR2 hS1 hRS hS2 hsv
   go_wp2_with fail
   refine HB3.out.mono ?_
   rintro e w4 ⟨v', W,rfl,rfl,hxW,hBne,hfin⟩
   have HF:=hide hfin
   have hxW4:(W.setCell ⟨B,5,none⟩ v').heap[w.heap.size]? = some (.cells #[.pointer none,.pointer none] 51 (0,0)):=by
    rw[heap_setCell_other _ _ _ _ (by exact hBne)];exact hxW
   have q0:(W.setCell ⟨B,5,none⟩ v').cell? ⟨w.heap.size,0,none⟩=some (.pointer none):=cell_of_row _ _ 0 _ _ (0,0) hxW4
   have q1:(W.setCell ⟨B,5,none⟩ v').cell? ⟨w.heap.size,1,none⟩=some (.pointer none):=cell_of_row _ _ 1 _ _ (0,0) hxW4
   have q2:∀j,(W.setCell ⟨B,5,none⟩ v').frozen? ⟨w.heap.size,j,none⟩=false:=fun j=>frozen_of_row _ _ j _ _ hxW4
   clear hfin hxW hxW4 hBne
   generalize hW4:W.setCell ⟨B,5,none⟩ v' = w4 at *
   clear hW4
   go_wp2_with fail
   refine (HU.out _ _).mono ?_
   rintro e w5 ⟨rfl,rfl⟩
   go_wp2
   obtain⟨f1,f2,f3⟩:=HF.out (.pointer (some ⟨T,0,none⟩)) (.pointer (some ⟨R,0,none⟩))
   have t0:=cell_of_row _ _ 0 _ _ (0,0) f3
   have t1:=cell_of_row _ _ 1 _ _ (0,0) f3
   refine bodyPost_ret (v:=.tuple #[.agg #[.pointer (some ⟨T,0,none⟩),.pointer (some ⟨R,0,none⟩)],.bool true]) (by simp[results,Tryz.results13,go_sem,t0,t1]) rfl ?_
   obtain⟨hz,hM1,hM2,hT1,hTM,hst,htr⟩:=HX.out
   obtain⟨hR1,hR2,hS1,hRS,hS2,hsv⟩:=HY.out
   have hg1:=HGl.out.1
   have hg2:=HGl.out.2
   have hgw:=HGw.out
   have hb3:=HB3'.out
   have hs3:=hb3.size
   refine⟨_,_,v', g,rfl,f1,.inr ⟨T,M,R,S,rfl,rfl,by omega,by omega,hTM,by omega,hst.keep ((f2 M (by omega) (by omega)).trans (hb3.block M hM2)),?_,(f2 R (by omega) (aGe.1 hR2).1).trans hR2,by omega,hRS,sv,(f2 S (by omega) (aGe.1 hS2).1).trans hS2,?_⟩⟩
   ·obtain⟨u,k1,k2⟩:=htr.held
    exact⟨⟨u,((f2 T (by omega) (by have:=HTl.out;omega)).trans (hb3.block T HTl.out)).trans k1,by cases k2;rfl⟩,fun k hk=>hk.elim⟩
   ·refine⟨hsv.1,?_⟩
    rcases hsv.2 with h|⟨q,c,cur,h1,h2,h3,h4⟩
    ·exact .inl h
    ·exact .inr ⟨q,c,cur,h1,by omega,(f2 q (by omega) (aGe.1 h3).1).trans h3,h4⟩
end Go.Proofs.YthdjmldddjljfaaGreatDoor
