/-
  OUR OWN.
-/
import Derived.Test.YthdjmldddjljfaaGreatDoorG41
import Derived.MapKept
set_option maxHeartbeats 8000000
set_option maxRecDepth 20000
namespace Go.Proofs.YthdjmldddjljfaaGreatDoor
open Go.RowKit Go.MapKept
def entV (p:Pr):Value:=.agg #[.string p.1,.string p.2]
structure StoreAt (w:World)(M:Nat)(S:List Pr):Prop where
 at' : ∃(es:Array MapEntry) (c:Nat),w.heap[M]? = some (.map es c)∧es.toList.map (fun e=>(e.key,e.val))=S.map (fun p=>(Value.string p.1,entV p))
theorem StoreAt.lt {w:World}{M:Nat}{S:List Pr}(h:StoreAt w M S):M<w.heap.size:=by
 obtain⟨es,c,h1,_⟩:=h.at'
 exact (aGe.1 h1).1
theorem StoreAt.keep {w w' : World}{M:Nat}{S:List Pr}(h:StoreAt w M S)(hb:w'.heap[M]? = w.heap[M]?):StoreAt w' M S:=by
 obtain⟨es,c,h1,h2⟩:=h.at'
 exact⟨es,c,hb.trans h1,h2⟩
theorem find_store (k:ByteArray):∀(es:List MapEntry) (S:List Pr) (i:Nat),es.map (fun e=>(e.key,e.val))=S.map (fun p=>(Value.string p.1,entV p)) →
  (S.find? (fun p=>decide (p.1=k))=none∧Instr.findNow .string (.string k) es i=some none)∨∃p j,S.find? (fun p=>decide (p.1=k))=some p∧Instr.findNow .string (.string k) es i=some (some (j,entV p))
 | [],[],_,_=>.inl ⟨rfl,rfl⟩
 | [],_ :: _,_,h=>by simp at h
 | _ :: _,[],_,h=>by simp at h
 | e :: es,p :: S,i,h=>by
   simp only[List.map_cons,List.cons.injEq,Prod.mk.injEq] at h
   obtain⟨⟨h1,h2⟩,h3⟩:=h
   rw[List.find?_cons]
   unfold Instr.findNow
   rw[h1]
   simp only[Instr.sameNow]
   by_cases hk:p.1=k
   ·have e2:(k == p.1)=true:=(bytes_beq _ _).2 hk.symm
    rw[decide_eq_true hk,e2]
    exact .inr ⟨p,i,rfl,by rw[h2]⟩
   ·have e2:(k == p.1)=false:=by
     cases h:(k == p.1) with
     | false=>rfl
     | true=>exact absurd ((bytes_beq _ _).1 h).symm hk
    rw[decide_eq_false hk,e2]
    exact find_store k es S (i+1) h3
theorem underM:Tryz.prog.underlying 61=some (.map 9 125):=by kernel_rfl
theorem underS:Tryz.prog.underlying 9=some .string:=by kernel_rfl
theorem look_none {w:World}{M:Nat}{S:List Pr}(h:StoreAt w M S){k:ByteArray}(hk:S.find? (fun p=>decide (p.1=k))=none) :
  (Instr.lookup 61 (.map (some M)) (.string k) true).run Tryz.prog w=.ok (.tuple #[entV (e0,e0),.bool false]) w:=by
 obtain⟨es,c,h1,h2⟩:=h.at'
 rcases find_store k es.toList S 0 h2 with⟨_,hf⟩|⟨p,j,hf,_⟩
 ·simp[Instr.lookup,run_underlying underM,MapKept.run_getObj_map h1,MapKept.run_checkKey underS (k:=.string k) trivial,MapKept.run_findKey underS hf,Result.andThen]
  rfl
 ·rw[hk] at hf;cases hf
theorem look_some' {w:World}{M:Nat}{S:List Pr}(h:StoreAt w M S){k:ByteArray}{p:Pr}(hk:S.find? (fun p=>decide (p.1=k))=some p) :
  (Instr.lookup 61 (.map (some M)) (.string k) true).run Tryz.prog w=.ok (.tuple #[entV p,.bool true]) w:=by
 obtain⟨es,c,h1,h2⟩:=h.at'
 rcases find_store k es.toList S 0 h2 with⟨hf,_⟩|⟨p', j,hf,hg⟩
 ·rw[hk] at hf;cases hf
 ·rw[hk] at hf
  injection hf with hf
  subst hf
  simp[Instr.lookup,run_underlying underM,MapKept.run_getObj_map h1,MapKept.run_checkKey underS (k:=.string k) trivial,MapKept.run_findKey underS hg,Result.andThen]
theorem lay_new {w:World}{M:Nat}{S:List Pr}(h:StoreAt w M S){k x:ByteArray}(hk:S.find? (fun p=>decide (p.1=k))=none) :
  ∃w', (Instr.mapUpdate 61 (.map (some M)) (.string k) (entV (k,x))).run Tryz.prog w=.ok () w' ∧ StoreAt w' M (S++[(k,x)])∧w.grownBy w' (some M)∧w'.heap.size=w.heap.size∧∀j,j≠M→w'.heap[j]? = w.heap[j]?:=by
 obtain⟨es,c,h1,h2⟩:=h.at'
 rcases find_store k es.toList S 0 h2 with⟨_,hf⟩|⟨p,j,hf,_⟩
 ·obtain⟨g1,g2⟩:=heap_set (o' := .map (es.push { key:=.string k,val:=entV (k,x),born:=c }) (c+1)) h1
  refine⟨{ w with heap:=w.heap.setIfInBounds M (.map (es.push { key:=.string k,val:=entV (k,x),born:=c }) (c+1)) },?_,⟨_,_,g1,?_⟩,⟨rfl,rfl,rfl,by simp,fun j _ hj=>g2 j (fun e=>hj (by rw[e]))⟩,by simp,g2⟩
  ·simp[Instr.mapUpdate,run_underlying underM,MapKept.run_getObj_map h1,MapKept.run_checkKey underS (k:=.string k) trivial,MapKept.run_findKey underS hf,MapKept.run_setObj_map _ h1,Result.andThen]
  ·rw[Array.toList_push,List.map_append,List.map_append,h2]
   rfl
 ·rw[hk] at hf;cases hf
end Go.Proofs.YthdjmldddjljfaaGreatDoor
namespace Go.Proofs.YthdjmldddjljfaaGreatDoor
open Go.RowKit
attribute [local go_sem ↓] Go.wp_at_zero Go.wp_at_succ
def newErr (es:List Pr):Int:=if 1000 < es.length then 1 else if (es.map Prod.fst).Nodup then 0 else 14
theorem find_none {S:List Pr}{k:ByteArray}:S.find? (fun p=>decide (p.1=k))=none↔k∉S.map Prod.fst:=by
 rw[List.find?_eq_none]
 constructor
 ·intro h hm
  obtain⟨p,hp,e⟩:=List.mem_map.1 hm
  exact h p hp (by simp[e])
 ·intro h p hp hd
  exact h (List.mem_map.2 ⟨p,hp,of_decide_eq_true hd⟩)
theorem nodup_snoc {l:List ByteArray}{k:ByteArray}(h:l.Nodup)(hk:k∉l):(l++[k]).Nodup:=by
 rw[List.nodup_append]
 refine⟨h,by simp,fun a ha b hb=>?_⟩
 obtain rfl:b=k:=by simpa using hb
 exact fun e=>hk (e ▸ ha)
theorem newStore_any (ao:Option Addr)(cap:Nat)(es:List Pr)(w:World)(hp:Prs w ao es)(hl:es.length≤100000000)(hs:∀p∈es,p.1.size≤100000000∧p.2.size≤100000000) :
  Calls Tryz.prog 40 #[.slice ao es.length cap] w fun e w' => Below w.heap.size w w' ∧ ((¬newErr es=0∧e=.returned (.tuple #[.map none,.int .i64 (newErr es)]))∨(newErr es=0∧∃M,w.heap.size≤M∧e=.returned (.tuple #[.map (some M),.int .i64 0])∧StoreAt w' M es)):=by
 have hmm:=@run_makeMap Tryz.prog
 have HPs:=hide hp
 have HSz:=hide hs
 by_cases h1:1000 < es.length
 ·have hE:newErr es=1:=if_pos h1
  have j1:(1000:Int)<(es.length:Int):=by omega
  have HE:=hide hE
  clear hE h1 hp hs
  go_enter Tryz.func40,Tryz.ntmps40
  go_wp2
  go_ret2
  exact⟨Below.refl _ _,.inl ⟨by rw[HE.out];decide,by rw[HE.out];rfl⟩⟩
 ·have j1:¬(1000:Int)<(es.length:Int):=by omega
  have HE:Hid (newErr es=if (es.map Prod.fst).Nodup then 0 else 14):=if_neg h1
  have hl2:es.length≤1000:=by omega
  clear h1 hp hs
  go_enter Tryz.func40,Tryz.ntmps40
  go_wp2_with fail
  have HW0:Hid ((w.alloc (.map #[] 0)).heap[w.heap.size]? = some (.map #[] 0)∧Below w.heap.size w (w.alloc (.map #[] 0))):=⟨heap_alloc_new _ _,below_alloc _ _⟩
  generalize World.alloc w _=W at *
  go_loopw [16] (fun iv wr=>∃i:Nat,i≤es.length∧iv=.int .i64 (i:Int)∧StoreAt wr w.heap.size (es.take i)∧((es.take i).map Prod.fst).Nodup∧Below w.heap.size w wr) (fun iv _=>es.length - (intOf iv).toNat)
  case atStart=>exact⟨0,by omega,rfl,⟨#[],0,HW0.out.1,rfl⟩,List.nodup_nil,HW0.out.2⟩
  case round =>
   obtain⟨i,hi,rfl,hst,hnd,hbw⟩:=hrel
   have HSt:=hide hst
   have HNd:=hide hnd
   have HB:=hide hbw
   have i0:(0:Int)≤(i:Int):=by omega
   by_cases hil:i<es.length
   ·have i1:(i:Int)<(es.length:Int):=by omega
    obtain⟨g,o,rfl,x0,x1⟩:=HPs.out.keep hbw i hil
    have hsz:=HSz.out _ (getD_in (d:=pr0) hil)
    have HTk:Hid (es.take (i+1)=es.take i++[es.getD i pr0]):=by
     show _=_
     rw[List.take_succ_eq_append_getElem hil,List.getD_eq_getElem?_getD,List.getElem?_eq_getElem hil];rfl
    generalize es.getD i pr0=q at *
    obtain⟨k,x⟩:=q
    dsimp only at x0 x1 hsz
    have HB1:Hid (Below w.heap.size w (wr.alloc (.cells #[.string k,.string x] 125))):=hbw.alloc hbw.size _
    have HX1:Hid ((wr.alloc (.cells #[.string k,.string x] 125)).heap[wr.heap.size]? = some (.cells #[.string k,.string x] 125 (0,0))):=heap_alloc_new _ _
    have hst1:StoreAt (wr.alloc (.cells #[.string k,.string x] 125)) w.heap.size (es.take i):=hst.keep (Below.heap_alloc _ _ _ hst.lt)
    by_cases hin:k∈(es.take i).map Prod.fst
    ·have hf:∃p,(es.take i).find? (fun p=>decide (p.1=k))=some p:=by
      cases hf:(es.take i).find? (fun p=>decide (p.1=k)) with
      | none=>exact absurd hin (find_none.1 hf)
      | some p=>exact⟨p,rfl⟩
     obtain⟨p,hf⟩:=hf
     have hlk:=look_some' hst1 hf
     unfold entV at hlk
     have HD:Hid (newErr es=14):=by
      show _=_
      rw[HE.out,if_neg]
      intro hn
      have h2:((es.take (i+1)).map Prod.fst).Nodup:=hn.sublist (List.Sublist.map _ (List.take_sublist _ _))
      rw[HTk.out,List.map_append,List.nodup_append] at h2
      exact h2.2.2 k hin k (by simp) rfl
     obtain⟨p1,p2⟩:=p
     dsimp only at hlk
     have HB2:Hid (∀o,Below w.heap.size w ((wr.alloc (.cells #[.string k,.string x] 125)).alloc o)):=fun o=>HB1.out.alloc HB1.out.size _
     clear hst hnd hbw hin hf hst1 hsz
     go_wp2
     go_ret2
     exact⟨HB2.out _,.inl ⟨by rw[HD.out];decide,by rw[HD.out];rfl⟩⟩
    ·have hlk:=look_none hst1 (find_none.2 hin)
     unfold entV at hlk
     have HIn:=hide hin
     dsimp only at hlk
     have HSt1:=hide hst1
     have HC1:=hide (fun W=>clone_any k W (by omega))
     have HC2:=hide (fun W=>clone_any x W (by omega))
     have HX2:Hid (∀o,Below (wr.alloc (.cells #[.string k,.string x] 125)).heap.size (wr.alloc (.cells #[.string k,.string x] 125)) ((wr.alloc (.cells #[.string k,.string x] 125)).alloc o)):=fun o=>below_alloc _ _
     clear hst hnd hbw hin hst1 hsz
     unfold e0 at hlk
     go_wp2_with fail
     refine (HC1.out _).mono ?_
     rintro e w2 ⟨rfl,hb2⟩
     have hbX:Below (wr.alloc (.cells #[.string k,.string x] 125)).heap.size (wr.alloc (.cells #[.string k,.string x] 125)) w2:=(HX2.out _).trans (hb2.mono (HX2.out _).size)
     have HbX:=hide hbX
     clear hb2 hbX hlk
     generalize (wr.alloc (.cells #[.string k,.string x] 125))=X1 at *
     generalize hbx:wr.heap.size=bx at *
     clear hbx
     have hbl:=(aGe.1 HX1.out).1
     have y1:w2.cell? ⟨bx,1,none⟩=some (.string x):=(HbX.out.cell (p:=⟨bx,1,none⟩) hbl).trans (cell_of_row _ _ 1 _ _ (0,0) HX1.out)
     clear hbl
     go_wp2_with fail
     refine (HC2.out _).mono ?_
     rintro e w3 ⟨rfl,hb3⟩
     have HbX3:Hid (Below X1.heap.size X1 w3):=HbX.out.trans (hb3.mono HbX.out.size)
     obtain⟨w4,hmu,hst4,hgr4,hsz4,_⟩:=lay_new (k:=k) (x:=x) (HSt1.out.keep (HbX3.out.block _ HSt1.out.lt)) (find_none.2 HIn.out)
     have HX4:=hide (And.intro hst4 hgr4)
     unfold entV at hmu
     dsimp only at hmu
     clear hst4 hgr4 hsz4 hb3 y1
     go_wp2
     go_roundw
     case rel =>
      refine⟨i+1,by omega,by go_num,by rw[HTk.out];exact HX4.out.1,by rw[HTk.out,List.map_append];exact nodup_snoc HNd.out HIn.out,?_⟩
      have h3:Below w.heap.size w w3:=HB1.out.trans (HbX3.out.mono HB1.out.size)
      exact h3.grown HX4.out.2 h3.size (fun q hq=>by
       obtain rfl:w.heap.size=q:=by simpa using hq
       exact Nat.le_refl _)
     case measure=>simp[intOf];omega
   ·obtain rfl:i=es.length:=by omega
    have HF:Hid (newErr es=0):=by
     show _=_
     rw[HE.out,if_pos]
     have h:=hnd
     rwa [List.take_length] at h
    have HSf:Hid (StoreAt wr w.heap.size es):=by
     have h:=hst
     rwa [List.take_length] at h
    clear hst hnd hbw
    go_wp2
    go_ret2
    exact⟨HB.out,.inr ⟨HF.out,w.heap.size,Nat.le_refl _,rfl,HSf.out⟩⟩
theorem three_set {a w:World}{B n t:Nat}{x y z x0 y0 z0:Value}(h:w.heap[B]? = some (.cells #[x0,y0,z0] t (0,0)))(hb:Below n a w)(hn:n≤B:=by exact Nat.le_refl _) :
  (((w.setCell ⟨B,0,none⟩ x).setCell ⟨B,1,none⟩ y).setCell ⟨B,2,none⟩ z).heap[B]? = some (.cells #[x,y,z] t (0,0))∧Below n a (((w.setCell ⟨B,0,none⟩ x).setCell ⟨B,1,none⟩ y).setCell ⟨B,2,none⟩ z)∧∀k,k≠B→(((w.setCell ⟨B,0,none⟩ x).setCell ⟨B,1,none⟩ y).setCell ⟨B,2,none⟩ z).heap[k]? = w.heap[k]?:=by
 refine⟨?_,((hb.setCell (p:=⟨B,0,none⟩) hn x).setCell (p:=⟨B,1,none⟩) hn y).setCell (p:=⟨B,2,none⟩) hn z,fun k hk=>?_⟩
 ·exact heap_setCell_same _ _ 2 _ _ _ (heap_setCell_same _ _ 1 _ _ _ (heap_setCell_same _ _ 0 _ _ _ h))
 ·rw[Below.heap_setCell _ _ _ _ hk,Below.heap_setCell _ _ _ _ hk,Below.heap_setCell _ _ _ _ hk]
theorem tNew_any (ao:Option Addr)(cap:Nat)(es:List Pr)(w:World)(hp:Prs w ao es)(hl:es.length≤100000000)(hs:∀p∈es,p.1.size≤100000000∧p.2.size≤100000000) :
  Calls Tryz.prog 17 #[.slice ao es.length cap] w fun e w' => Below w.heap.size w w' ∧ ((¬newErr es=0∧e=.returned (.tuple #[.agg #[.map none,.nilIface,.string e0],.int .i64 (newErr es)]))∨(newErr es=0∧∃M,w.heap.size≤M∧e=.returned (.tuple #[.agg #[.map (some M),.nilIface,.string e0],.int .i64 0])∧StoreAt w' M es)):=by
 have HN:=hide (fun W (hW:Below w.heap.size w W)=>newStore_any ao cap es W (hp.keep hW) hl hs)
 have HB0:Hid (∀o,Below w.heap.size w (w.alloc o)):=fun o=>below_alloc _ _
 have HX0:Hid (∀cs t,(w.alloc (.cells cs t)).heap[w.heap.size]? = some (.cells cs t (0,0))):=fun cs t=>heap_alloc_new _ _
 clear hp hl hs
 go_enter Tryz.func17,Tryz.ntmps17
 go_wp2_with fail
 refine (HN.out _ (HB0.out _)).mono ?_
 rintro e w1 ⟨hb1,h1⟩
 have hr:=(hb1.block w.heap.size (by simp)).trans (HX0.out _ _)
 have HB1:Hid (Below w.heap.size w w1):=(HB0.out _).trans (hb1.mono (HB0.out _).size)
 have r0:=cell_of_row _ _ 0 _ _ (0,0) hr
 have r1:=cell_of_row _ _ 1 _ _ (0,0) hr
 have r2:=cell_of_row _ _ 2 _ _ (0,0) hr
 have ff:∀j,w1.frozen? ⟨w.heap.size,j,none⟩=false:=fun j=>frozen_of_row _ _ j _ _ hr
 have HR:=hide hr
 clear hr HN
 rcases h1 with⟨hne,rfl⟩|⟨hz,M,hM,rfl,hst⟩
 ·have HNe:=hide hne
  clear hne hb1
  obtain⟨E,hE⟩:∃E,newErr es=E:=⟨_,rfl⟩
  rw[hE]
  have HE:=hide hE
  clear hE
  go_wp2
  obtain⟨q,qb,_⟩:=three_set (x:=.map none) (y:=.nilIface) (z:=.string e0) HR.out HB1.out
  have q0:=cell_of_row _ _ 0 _ _ (0,0) q
  have q1:=cell_of_row _ _ 1 _ _ (0,0) q
  have q2:=cell_of_row _ _ 2 _ _ (0,0) q
  unfold e0 at q0 q1 q2
  refine bodyPost_ret (v:=.tuple #[.agg #[.map none,.nilIface,.string e0],.int .i64 E]) (by simp[results,Tryz.results17,go_sem,q0,q1,q2]) rfl ?_
  exact⟨qb,.inl ⟨HNe.out,by rw[HE.out]⟩⟩
 ·have HS:=hide hst
  have HM:Hid (w.heap.size<M∧newErr es=0):=⟨Nat.lt_of_lt_of_le (by simp) hM,hz⟩
  clear hst hM hb1 hz
  go_wp2
  obtain⟨q,qb,qo⟩:=three_set (x:=.map (some M)) (y:=.nilIface) (z:=.string e0) HR.out HB1.out
  have q0:=cell_of_row _ _ 0 _ _ (0,0) q
  have q1:=cell_of_row _ _ 1 _ _ (0,0) q
  have q2:=cell_of_row _ _ 2 _ _ (0,0) q
  unfold e0 at q0 q1 q2
  refine bodyPost_ret (v:=.tuple #[.agg #[.map (some M),.nilIface,.string e0],.int .i64 0]) (by simp[results,Tryz.results17,go_sem,q0,q1,q2]) rfl ?_
  exact⟨qb,.inr ⟨HM.out.2,M,by have:=HM.out.1;omega,rfl,HS.out.keep (qo M (by have:=HM.out.1;omega))⟩⟩
def NewAny (Hk:Nd→ByteArray→Prop)(es:List Pr)(w:World)(e:Ending)(w' : World):Prop:=Below w.heap.size w w' ∧ ((¬newErr es=0∧e=.returned (.tuple #[.pointer none,.int .i64 (newErr es)]))∨(newErr es=0∧∃T M,e=.returned (.tuple #[ptr T,.int .i64 0])∧w.heap.size≤M∧M<w'.heap.size∧w.heap.size≤T∧T≠M∧StoreAt w' M es∧TreeAt Hk (fun _=>False) w' T (.map (some M)) .nil))
theorem cNew_any (Hk:Nd→ByteArray→Prop)(ao:Option Addr)(cap:Nat)(es:List Pr)(w:World)(hp:Prs w ao es)(hl:es.length≤100000000)(hs:∀p∈es,p.1.size≤100000000∧p.2.size≤100000000) :
  Calls Tryz.prog 9 #[.slice ao es.length cap] w fun e w' => NewAny Hk es w e w' := by
 have HN:=hide (tNew_any ao cap es w hp hl hs)
 clear hp hl hs
 go_enter Tryz.func9,Tryz.ntmps9
 go_wp2_with fail
 refine HN.out.mono ?_
 rintro e w1 ⟨hb1,h1⟩
 have HB:=hide hb1
 clear hb1
 rcases h1 with⟨hne,rfl⟩|⟨hz,M,hM,rfl,hst⟩
 ·have HNe:=hide hne
  have hne2:(newErr es == 0)=false:=by simpa using hne
  obtain⟨E,hE⟩:∃E,newErr es=E:=⟨_,rfl⟩
  rw[hE] at hne ⊢
  have HE:=hide hE
  clear hE hne2
  go_wp2
  go_ret2
  refine⟨HB.out.trans ((below_alloc _ _).mono HB.out.size),.inl ⟨HNe.out,by rw[HE.out];rfl⟩⟩
 ·have HX:=hide (And.intro hz (And.intro hM hst))
  clear hz hM hst
  go_wp2
  go_ret2
  obtain⟨hz,hM,hst⟩:=HX.out
  have hb:=HB.out.size
  have hlt:=hst.lt
  have hbel:∀o1 o2,Below w1.heap.size w1 ((w1.alloc o1).alloc o2):=fun o1 o2=>below_alloc2 _ _ _
  refine⟨HB.out.trans ((hbel _ _).mono hb),.inr ⟨hz,w1.heap.size+1,M,rfl,hM,by simp;omega,by omega,by omega,hst.keep ((hbel _ _).block M hlt),⟨⟨.nilIface,?_,rfl⟩,fun k hk=>hk.elim⟩⟩⟩
  have h:=heap_alloc_new (w1.alloc (.cells #[.map (some M),.nilIface,.string e0] 67)) (.cells #[.map (some M),.nilIface,.string e0] 71)
  rwa [World.size_alloc] at h
end Go.Proofs.YthdjmldddjljfaaGreatDoor
