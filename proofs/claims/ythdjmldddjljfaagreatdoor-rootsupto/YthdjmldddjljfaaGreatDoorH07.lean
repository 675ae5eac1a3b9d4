/-
  OUR OWN.
-/
import Derived.Test.YthdjmldddjljfaaGreatDoorH02
import Derived.Test.YthdjmldddjljfaaGreatDoorH03
set_option maxHeartbeats 8000000
set_option maxRecDepth 20000
namespace Go.Proofs.YthdjmldddjljfaaGreatDoor
open Go.RowKit
def Ints (w:World)(ao:Option Addr)(zs:List Int):Prop :=
 zs=[]∨∃b off,ao=some ⟨b,off,none⟩∧∀j,j<zs.length→w.cell? ⟨b,off+j,none⟩=some (.int .i64 (zs.getD j 0))
theorem Ints.row {w:World}{ao:Option Addr}{zs:List Int}(h:Ints w ao zs)(h0:0 < zs.length):∃b off,ao=some ⟨b,off,none⟩∧b<w.heap.size∧∀j,j<zs.length→w.cell? ⟨b,off+j,none⟩=some (.int .i64 (zs.getD j 0)):=by
 rcases h with rfl|⟨b,off,h1,h2⟩
 ·simp at h0
 ·exact⟨b,off,h1,World.block_lt_of_cell? w _ (h2 0 h0),h2⟩
theorem Ints.get {w:World}{ao:Option Addr}{zs:List Int}(h:Ints w ao zs)(j:Nat)(hj:j<zs.length):∃b off,ao=some ⟨b,off,none⟩∧w.cell? ⟨b,off+j,none⟩=some (.int .i64 (zs.getD j 0)):=by
 obtain⟨b,off,h1,_,h2⟩:=h.row (by omega)
 exact⟨b,off,h1,h2 j hj⟩
theorem Ints.own {w:World}{base e g n c:Nat}{zs:List Int}(h:w.ownsRow base e 1 (.slice (some ⟨g,0,none⟩) n c) n (zs.map (Value.int .i64))):Ints w (some ⟨g,0,none⟩) zs:=by
 refine .inr ⟨g,0,rfl,fun j hj=>?_⟩
 have:=h.cells (g:=g) rfl j (.int .i64 (zs.getD j 0)) (by simp[List.getD_eq_getElem?_getD,hj])
 rw[←this,addr_add]
theorem info3:(Tryz.prog.info? 3).map (fun i=>(i.zero,i.size,i.bytes))=some (some (.int .i64 0),1,8):=by kernel_rfl
theorem make_ints0 (n:Nat)(h:n*8≤281474976710656)(w:World):(Instr.makeSlice 80 (.int .i64 0) (.int .i64 (n:Int))).run Tryz.prog w =
  .ok (.slice (some ⟨w.heap.size,0,none⟩) 0 n) (w.alloc (.cells (madeCells #[.int .i64 0] n) 3)):=by
 obtain⟨i0,hi,hz0,hz1,hz2⟩:=info_parts info3
 have h:=run_make (P:=Tryz.prog) w 80 3 i0 (.int .i64 0) Tryz.underlying80 hi hz0 .i64 .i64 0 (n:Int) (by omega) (by omega) (by rw[hz2];omega) (by omega)
 simpa[hz1,Value.cells] using h
theorem ints_news {w:World}{b off:Nat}{zs:List Int}(h:∀j,j<zs.length→w.cell? ⟨b,off+j,none⟩=some (.int .i64 (zs.getD j 0))) :
  ∀j u,(zs.map (Value.int .i64))[j]? = some u→w.cell? ((⟨b,off,none⟩:Addr).add j)=some u:=by
 intro j u hu
 have hj:j<zs.length:=by simpa using (List.getElem?_eq_some_iff.1 hu).1
 rw[addr_add,h j hj]
 rw[←hu];simp[List.getD_eq_getElem?_getD,hj]
theorem ints_one (zs:List Int):∀u∈zs.map (Value.int .i64),u.oneCell' = true:=by
 intro u hu;simp at hu;obtain⟨x,_,rfl⟩:=hu;rfl
theorem news_of (w:World)(l:List Value):∀j u,l[j]? = some u→(w.alloc (.cells l.toArray 3)).cell? ((⟨w.heap.size,0,none⟩:Addr).add j)=some u :=
 World.news_of_block (cs:=l.toArray) (t:=3) (fr:=(0,0)) (heap_alloc_new w _)
theorem Ints.reads {w:World}{ao:Option Addr}{cap:Nat}{zs:List Int}(h:Ints w ao zs)(hn:ao=none→cap=0):Reads w (.slice ao zs.length cap) zs.length (zs.map (Value.int .i64)):=by
 by_cases h0:0 < zs.length
 ·obtain⟨b,off,rfl,_,h2⟩:=h.row h0
  exact .inr ⟨_,_,rfl,ints_news h2⟩
 ·obtain rfl:zs=[]:=List.length_eq_zero_iff.1 (by omega)
  cases ao with
  | none=>obtain rfl:=hn rfl;exact .inl ⟨rfl,rfl,rfl⟩
  | some a=>exact .inr ⟨a,cap,rfl,by simp⟩
theorem isPath_short (ao:Option Addr)(cap:Nat)(zs:List Int)(w:World)(h:zs.length≤128)(hc:Ints w ao zs) :
  Calls Tryz.prog 222 #[.slice ao zs.length cap] w fun e w' => e=.returned (.bool (isP zs))∧w' = w:=by
 go_enter Tryz.func222,Tryz.ntmps222
 go_wp2
 go_loop [10] (fun i=>∃k:Nat,k≤zs.length∧i=.int .i64 k∧(zs.take k).all nib=true) (fun i=>zs.length - (intOf i).toNat)
 case atStart=>exact⟨0,Nat.zero_le _,rfl,by simp⟩
 case round =>
  obtain⟨k,hk,rfl,hall⟩:=hrel
  by_cases hlt:k<zs.length
  ·obtain⟨b,off,rfl,hcell⟩:=hc.get k hlt
   have HS:=hide (all_take_succ nib zs k hlt)
   have HB:Hid (nib (zs.getD k 0)=false→isP zs=false):=fun hb=>isP_bad hlt hb
   have HN:Hid (nib zs[k]=nib (zs.getD k 0)):=by simp[Hid,hlt]
   have HA:=hide hall
   clear hall
   by_cases hneg:zs[k]<0
   ·go_wp2
    go_ret
    exact⟨ret_bool (HB.out (by rw[←HN.out];simp[nib];omega)).symm,rfl⟩
   ·by_cases hbig:15 < zs[k]
    ·go_wp2
     go_ret
     exact⟨ret_bool (HB.out (by rw[←HN.out];simp[nib];omega)).symm,rfl⟩
    ·go_wp2
     go_round
     case rel=>exact⟨k+1,by omega,by go_num,by rw[HS.out,HA.out,←HN.out];simp[nib];omega⟩
     case measure=>simp[intOf];omega
  ·have hk2:k=zs.length:=by omega
   have HF:Hid (isP zs=true):=isP_good h (by rw[←hk2];exact hall)
   clear hall hk2
   go_wp2
   go_ret
   exact⟨ret_bool HF.out.symm,rfl⟩
theorem joined_any (ao:Option Addr)(cap n:Nat)(zs:List Int)(w:World)(hl:zs.length=2 * n)(hn:n≤65)(hc:Ints w ao zs)(hnib:∀j,j<zs.length→0≤zs.getD j 0∧zs.getD j 0≤15) :
  Calls Tryz.prog 171 #[.slice ao (2 * n) cap] w fun e w' => e=.returned (.slice (some ⟨w.heap.size,0,none⟩) n n)∧∃A m,w' = (w.alloc (.cells A 5)).drewN m∧A=((pairUp zs).map (Value.int .u8)).toArray:=by
 have hmk:=make_bytes n (by omega)
 have hq:(2 * (n:Int)) / 2=(n:Int):=by omega
 have HL:=hide hl
 clear hl
 go_enter Tryz.func171,Tryz.ntmps171
 go_wp2
 go_loopw [11] (fun i wr=>∃(k m:Nat) (A:Array Value),k≤n∧i=.int .i64 k∧wr=(w.alloc (.cells A 5)).drewN m∧A.size=n∧∀j,j<k→A[j]? = some (.int .u8 ((pairUp zs).getD j 0))) (fun i _=>n - (intOf i).toNat)
 case atStart=>exact⟨0,0,_,Nat.zero_le _,rfl,rfl,by simp[madeCells],by omega⟩
 case round =>
  obtain⟨k,m,A,hk,rfl,rfl,hA,hj⟩:=hrel
  by_cases hlt:k<n
  ·obtain⟨b,off,rfl,hcell⟩:=hc.get (2 * k) (by rw[HL.out];omega)
   obtain⟨b', off', he,hcell'⟩:=hc.get (2 * k+1) (by rw[HL.out];omega)
   obtain⟨rfl,rfl⟩:b=b' ∧ off=off' := by simpa using he
   have lb:=World.block_lt_of_cell? w _ hcell
   have n1:=hnib (2 * k) (by rw[HL.out];omega)
   have n2:=hnib (2 * k+1) (by rw[HL.out];omega)
   have hx:(w.alloc (.cells A 5)).cell? ⟨b,off+2 * k,none⟩=some (.int .i64 (zs.getD (2 * k) 0)):=by rw[World.cell?_alloc_past _ _ _ (by simpa using lb)];exact hcell
   have hy:(w.alloc (.cells A 5)).cell? ⟨b,off+(2 * k+1),none⟩=some (.int .i64 (zs.getD (2 * k+1) 0)):=by rw[World.cell?_alloc_past _ _ _ (by simpa using lb)];exact hcell'
   have HP:=hide (pairUp_getD n k zs HL.out hlt)
   have HJ:=hide hj
   clear hj hcell hcell' he hc hnib
   generalize zs.getD (2 * k) 0=x at *
   generalize zs.getD (2 * k+1) 0=y at *
   obtain⟨x1,x2⟩:=n1
   obtain⟨y1,y2⟩:=n2
   have b0:(0:Int)≤(k:Int):=by omega
   have b1:(k:Int)<(n:Int):=by omega
   have b2:2 * (k:Int)<2 * (n:Int):=by omega
   have b3:2 * (k:Int)+1 < 2 * (n:Int):=by omega
   go_wp2
   go_region
   go_wp2
   go_roundw
   case rel =>
    refine⟨k+1,m+1,A.setIfInBounds k (.int .u8 ((pairUp zs).getD k 0)),by omega,by go_num,?_,by simp[hA],?_⟩
    ·rw[or_nib x y x1 x2 y1 y2,←HP.out]
     exact congrArg (fun u=>World.drewN u (m+1)) (World.setCell_alloc_new A 5 k _)
    ·intro j hj
     rw[Array.getElem?_setIfInBounds]
     by_cases e:k=j
     ·subst e;simp[hA,hlt]
     ·rw[if_neg e];exact HJ.out j (by omega)
   case measure=>simp[intOf];omega
  ·have hkn:k=n:=by omega
   have HE:Hid (A=((pairUp zs).map (Value.int .u8)).toArray):=by
    have hp:=pairUp_length n zs HL.out
    apply Array.ext_getElem?
    intro j
    by_cases hjn:j<n
    ·rw[hj j (by omega)]
     simp[List.getD_eq_getElem?_getD,hp,hjn]
    ·rw[Array.getElem?_eq_none (by omega)]
     simp[List.getElem?_eq_none (show (pairUp zs).length≤j by omega)]
   clear hkn hj
   go_wp2
   go_ret
   exact⟨rfl,A,m,rfl,HE.out⟩
set_option maxRecDepth 100000 in
theorem withMark_odd (ao:Option Addr)(cap:Nat)(zs:List Int)(w:World)(leaf:Bool)(hl:zs.length≤128)(hodd:(zs.length:Int) % 2=1)(hc:Ints w ao zs)(hnil:ao=none→cap=0) :
  Calls Tryz.prog 223 #[.slice ao zs.length cap,.bool leaf] w fun e w' => ∃v,e=.returned v ∧
   w'.ownsRow w.heap.size 3 1 v (1+zs.length) ((halvesOf leaf zs).map (Value.int .i64))∧Below w.heap.size w w' := by
 obtain⟨i0,hi,hz0,hz1,hz2⟩:=info_parts info3
 obtain⟨n,M,hn,hM,hmk⟩:∃(n:Nat) (M:Array Value),Hid (n=zs.length+2)∧Hid (M.size=n*1)∧∀w:World,(Instr.makeSlice 80 (.int .i64 0) (.int .i64 ((zs.length:Int)+2))).run Tryz.prog w =
  .ok (.slice (some ⟨w.heap.size,0,none⟩) 0 n) (w.alloc (.cells M 3)):=⟨zs.length+2,_,rfl,by simp[Hid,madeCells],fun w=>make_ints0 (zs.length+2) (by omega) w⟩
 have hown0:=hide (World.ownsRow_made (base:=w.heap.size) (e:=3) (size:=1) w M n (Nat.le_refl _) (by unfold maxLen;rw[hn.out];omega) hM.out)
 have HH:=hide (halvesOf_odd (leaf:=leaf) (zs:=zs) (by omega))
 have htst:((zs.length:Int) % 2 == 1)=true:=by simp[hodd]
 clear hodd
 have HR:=hide (hc.reads hnil)
 clear hc hnil
 have tok1:True:=trivial
 cases leaf
 ·go_enter Tryz.func223,Tryz.ntmps223
  go_wp2_with (first
   | (at_builtin;have _t:=tok1;go_must (refine wpList_append_lies _ rfl (.tmp 16) (.tmp 19) 80 rfl w.heap.size 3 i0 (.int .i64 0) 1 8 Tryz.underlying80 hi hz0 hz1 hz2 rfl (by decide) _ 0 [] rfl (hown0.out.alloc _) ⟨w.heap.size+1,0,none⟩ 1 1 [.int .i64 1] rfl rfl (by simpa using news_of (w.alloc (.cells M 3)) [.int .i64 1]) (by simp[Value.oneCell']) (by omega) (by unfold maxLen;omega) (by omega) (by simp<;>omega) _ rfl ?_);intro g c w1 hown1 hgrow1 hat1 hlt1;go_must (have hb1:Below w.heap.size w w1:=(below_alloc2 w _ _).grown hgrow1 (by simp<;>omega) (row_ge (Nat.le_refl _)));go_must (simp only[Nat.zero_add,List.nil_append] at hown1);clear tok1)
   | (at_builtin;go_must (refine wpList_append_reads rfl (.tmp 25) (.tmp 26) 80 rfl w.heap.size 3 i0 (.int .i64 0) 1 8 Tryz.underlying80 hi hz0 hz1 hz2 rfl (by decide) _ 1 _ rfl hown1 _ zs.length (zs.map (Value.int .i64)) rfl (HR.out.keep hb1) (by simp) (ints_one zs) (by unfold maxLen;omega) (by omega) (by have:=hb1.size;omega) ?_);intro v2 w2 hown2 hgrow2))
  go_ret
  refine⟨_,rfl,?_,hb1.grown hgrow2 hb1.size (own_ge hown1 (Nat.le_refl _))⟩
  rw[HH.out]
  exact hown2
 ·go_enter Tryz.func223,Tryz.ntmps223
  go_wp2_with (first
   | (at_builtin;have _t:=tok1;go_must (refine wpList_append_lies _ rfl (.tmp 16) (.tmp 19) 80 rfl w.heap.size 3 i0 (.int .i64 0) 1 8 Tryz.underlying80 hi hz0 hz1 hz2 rfl (by decide) _ 0 [] rfl (hown0.out.alloc _) ⟨w.heap.size+1,0,none⟩ 1 1 [.int .i64 3] rfl rfl (by simpa using news_of (w.alloc (.cells M 3)) [.int .i64 3]) (by simp[Value.oneCell']) (by omega) (by unfold maxLen;omega) (by omega) (by simp<;>omega) _ rfl ?_);intro g c w1 hown1 hgrow1 hat1 hlt1;go_must (have hb1:Below w.heap.size w w1:=(below_alloc2 w _ _).grown hgrow1 (by simp<;>omega) (row_ge (Nat.le_refl _)));go_must (simp only[Nat.zero_add,List.nil_append] at hown1);clear tok1)
   | (at_builtin;go_must (refine wpList_append_reads rfl (.tmp 25) (.tmp 26) 80 rfl w.heap.size 3 i0 (.int .i64 0) 1 8 Tryz.underlying80 hi hz0 hz1 hz2 rfl (by decide) _ 1 _ rfl hown1 _ zs.length (zs.map (Value.int .i64)) rfl (HR.out.keep hb1) (by simp) (ints_one zs) (by unfold maxLen;omega) (by omega) (by have:=hb1.size;omega) ?_);intro v2 w2 hown2 hgrow2))
  go_ret
  refine⟨_,rfl,?_,hb1.grown hgrow2 hb1.size (own_ge hown1 (Nat.le_refl _))⟩
  rw[HH.out]
  exact hown2
set_option maxRecDepth 100000 in
theorem withMark_even (ao:Option Addr)(cap:Nat)(zs:List Int)(w:World)(leaf:Bool)(hl:zs.length≤128)(hodd:(zs.length:Int) % 2=0)(hc:Ints w ao zs)(hnil:ao=none→cap=0) :
  Calls Tryz.prog 223 #[.slice ao zs.length cap,.bool leaf] w fun e w' => ∃v,e=.returned v ∧
   w'.ownsRow w.heap.size 3 1 v (2+zs.length) ((halvesOf leaf zs).map (Value.int .i64))∧Below w.heap.size w w' := by
 obtain⟨i0,hi,hz0,hz1,hz2⟩:=info_parts info3
 obtain⟨n,M,hn,hM,hmk⟩:∃(n:Nat) (M:Array Value),Hid (n=zs.length+2)∧Hid (M.size=n*1)∧∀w:World,(Instr.makeSlice 80 (.int .i64 0) (.int .i64 ((zs.length:Int)+2))).run Tryz.prog w =
  .ok (.slice (some ⟨w.heap.size,0,none⟩) 0 n) (w.alloc (.cells M 3)):=⟨zs.length+2,_,rfl,by simp[Hid,madeCells],fun w=>make_ints0 (zs.length+2) (by omega) w⟩
 have hown0:=hide (World.ownsRow_made (base:=w.heap.size) (e:=3) (size:=1) w M n (Nat.le_refl _) (by unfold maxLen;rw[hn.out];omega) hM.out)
 have HH:=hide (halvesOf_even (leaf:=leaf) (zs:=zs) (by omega))
 have htst:((zs.length:Int) % 2 == 1)=false:=by simp[hodd]
 clear hodd
 have HR:=hide (hc.reads hnil)
 clear hc hnil
 have tok1:True:=trivial
 cases leaf
 ·go_enter Tryz.func223,Tryz.ntmps223
  go_wp2_with (first
   | (at_builtin;have _t:=tok1;go_must (refine wpList_append_lies _ rfl (.tmp 21) (.tmp 23) 80 rfl w.heap.size 3 i0 (.int .i64 0) 1 8 Tryz.underlying80 hi hz0 hz1 hz2 rfl (by decide) _ 0 [] rfl (hown0.out.alloc _) ⟨w.heap.size+1,0,none⟩ 2 2 [.int .i64 0,.int .i64 0] rfl rfl (by simpa using news_of (w.alloc (.cells M 3)) [.int .i64 0,.int .i64 0]) (by simp[Value.oneCell']) (by omega) (by unfold maxLen;omega) (by omega) (by simp<;>omega) _ rfl ?_);intro g c w1 hown1 hgrow1 hat1 hlt1;go_must (have hb1:Below w.heap.size w w1:=(below_alloc2 w _ _).grown hgrow1 (by simp<;>omega) (row_ge (Nat.le_refl _)));go_must (simp only[Nat.zero_add,List.nil_append] at hown1);clear tok1)
   | (at_builtin;go_must (refine wpList_append_reads rfl (.tmp 25) (.tmp 26) 80 rfl w.heap.size 3 i0 (.int .i64 0) 1 8 Tryz.underlying80 hi hz0 hz1 hz2 rfl (by decide) _ 2 _ rfl hown1 _ zs.length (zs.map (Value.int .i64)) rfl (HR.out.keep hb1) (by simp) (ints_one zs) (by unfold maxLen;omega) (by omega) (by have:=hb1.size;omega) ?_);intro v2 w2 hown2 hgrow2))
  go_ret
  refine⟨_,rfl,?_,hb1.grown hgrow2 hb1.size (own_ge hown1 (Nat.le_refl _))⟩
  rw[HH.out]
  exact hown2
 ·go_enter Tryz.func223,Tryz.ntmps223
  go_wp2_with (first
   | (at_builtin;have _t:=tok1;go_must (refine wpList_append_lies _ rfl (.tmp 21) (.tmp 23) 80 rfl w.heap.size 3 i0 (.int .i64 0) 1 8 Tryz.underlying80 hi hz0 hz1 hz2 rfl (by decide) _ 0 [] rfl (hown0.out.alloc _) ⟨w.heap.size+1,0,none⟩ 2 2 [.int .i64 2,.int .i64 0] rfl rfl (by simpa using news_of (w.alloc (.cells M 3)) [.int .i64 2,.int .i64 0]) (by simp[Value.oneCell']) (by omega) (by unfold maxLen;omega) (by omega) (by simp<;>omega) _ rfl ?_);intro g c w1 hown1 hgrow1 hat1 hlt1;go_must (have hb1:Below w.heap.size w w1:=(below_alloc2 w _ _).grown hgrow1 (by simp<;>omega) (row_ge (Nat.le_refl _)));go_must (simp only[Nat.zero_add,List.nil_append] at hown1);clear tok1)
   | (at_builtin;go_must (refine wpList_append_reads rfl (.tmp 25) (.tmp 26) 80 rfl w.heap.size 3 i0 (.int .i64 0) 1 8 Tryz.underlying80 hi hz0 hz1 hz2 rfl (by decide) _ 2 _ rfl hown1 _ zs.length (zs.map (Value.int .i64)) rfl (HR.out.keep hb1) (by simp) (ints_one zs) (by unfold maxLen;omega) (by omega) (by have:=hb1.size;omega) ?_);intro v2 w2 hown2 hgrow2))
  go_ret
  refine⟨_,rfl,?_,hb1.grown hgrow2 hb1.size (own_ge hown1 (Nat.le_refl _))⟩
  rw[HH.out]
  exact hown2
end Go.Proofs.YthdjmldddjljfaaGreatDoor
