/-
  OUR OWN.
-/
import Derived.Test.YthdjmldddjljfaaGreatDoorH19
import Derived.Test.YthdjmldddjljfaaGreatDoorH03
import Derived.Lib.BufferWrite
import Derived.Laws.BytesArg
set_option maxHeartbeats 8000000
set_option maxRecDepth 20000
namespace Go.Proofs.YthdjmldddjljfaaGreatDoor
open Go.RowKit
theorem size5:(Tryz.prog.info? 5).map (·.size)=some 1:=by kernel_rfl
def bcells (l:List UInt8):Array Value:=(l.map fun b=>Value.int .u8 (b.toNat:Int)).toArray
theorem bcells_get (l:List UInt8)(j:Nat):(bcells l)[j]? = (l[j]?).map fun b=>Value.int .u8 (b.toNat:Int):=by simp[bcells]
theorem bcells_set (l:List UInt8)(j:Nat)(b:UInt8):(bcells l).setIfInBounds j (.int .u8 (b.toNat:Int))=bcells (l.set j b):=by
 apply Array.ext_getElem?
 intro i
 rw[Array.getElem?_setIfInBounds,bcells_get,bcells_get,List.getElem?_set]
 by_cases e:j=i
 ·subst e
  by_cases h:j<l.length
  ·simp[bcells,h]
  ·simp[bcells,h]
 ·simp[e]
theorem bcells_conv {w:World}{g:Nat}{l:List UInt8}(h:w.heap[g]? = some (.cells (bcells l) 5 (0,0)))(n:Nat)(hn:l.length=n)(cap:Nat) :
  (convert 144 9 (.slice (some ⟨g,0,none⟩) n cap)).run Tryz.prog w=.ok (.string ⟨l.toArray⟩) w:=by
 subst hn
 refine run_convert_bytes_back (P:=Tryz.prog) w 144 9 5 ⟨g,0,none⟩ cap l Tryz.underlying144 Tryz.underlying5 Tryz.underlying9 (fun j hj=>?_)
 rw[addr_add,Nat.zero_add,cell_of_row w g j _ 5 (0,0) h,bcells_get]
 simp[hj]
def padL (l:List UInt8):List UInt8:=if l.length=135 then l++[129] else l++1 :: (List.replicate (134 - l.length) 0++[128])
theorem padL_length (l:List UInt8)(h:l.length<136):(padL l).length=136:=by
 unfold padL
 split
 ·simp;omega
 ·simp;omega
def padS (s:ByteArray):ByteArray:=⟨(padL s.data.toList).toArray⟩
theorem padS_size (s:ByteArray)(h:s.size<136):(padS s).size=136:=by
 have:=padL_length s.data.toList (by rw[Array.length_toList];exact h)
 rw[Lib.size_eq];simpa[padS] using this
def rawL (l:List UInt8):List UInt8:=l++List.replicate (136 - l.length) 0
theorem raw_135 (l:List UInt8)(h:l.length=135):((rawL l).set 135 1).set 135 129=padL l:=by
 unfold rawL padL
 rw[if_pos h,h]
 rw[List.set_set]
 rw[List.set_append_right _ _ (by omega),h]
 rfl
theorem raw_less (l:List UInt8)(h:l.length<135):((rawL l).set l.length 1).set 135 128=padL l:=by
 unfold rawL padL
 rw[if_neg (by omega)]
 rw[List.set_append_right _ _ (Nat.le_refl _),Nat.sub_self,List.set_append_right _ _ (by omega)]
 congr 1
 obtain⟨m,hm⟩:∃m,136 - l.length=m+2:=⟨134 - l.length,by omega⟩
 rw[hm,show 134 - l.length=m from by omega,show 135 - l.length=m+1 from by omega]
 rw[show m+2=(m+1)+1 from rfl,List.replicate_succ,List.set_cons_zero,List.set_cons_succ,List.replicate_succ']
 congr 1
 rw[List.set_append_right _ _ (by simp)]
 simp
theorem raw_at (l:List UInt8)(h:l.length<135):((rawL l).set l.length 1)[135]? = some 0:=by
 rw[List.getElem?_set_ne (by omega)]
 unfold rawL
 rw[List.getElem?_append_right (by omega),List.getElem?_replicate]
 simp;omega
theorem copy_str (w:World)(s:ByteArray)(M:Array Value)(hM:M=bcells (List.replicate 136 0))(hs:s.size<136) :
  ∃w1,(Builtin.copy_ #[144,9] 3 #[.slice (some ⟨w.heap.size,0,none⟩) 136 136,.string s]).run Tryz.prog (w.alloc (.cells M 5))=.ok (.int .i64 (s.size:Int)) w1 ∧
   w1.heap[w.heap.size]? = some (.cells (bcells (rawL s.data.toList)) 5 (0,0))∧w.grownBy w1 none:=by
 have hg:(w.alloc (.cells M 5)).heap[w.heap.size]? = some (.cells M 5 (0,0)):=heap_alloc_new w _
 have hr:=Lib.run_copy_row_string (P:=Tryz.prog) (w.alloc (.cells M 5)) 144 9 3 5 w.heap.size 0 136 136 s M 5 Tryz.underlying144 size5 hg (by omega) (by rw[hM];simp[bcells];omega)
 refine⟨_,hr,?_,?_⟩
 ·rw[setRow_heap _ _ _ _ _ _ hg]
  congr 2
  have e:s.data.toList.length=s.size:=by rw[Array.length_toList];rfl
  rw[hM]
  simp only[bcells,rawL,Lib.byteCells,List.take_zero,List.nil_append,Nat.zero_add,List.map_append,List.map_replicate]
  rw[List.drop_replicate,e]
 ·refine⟨rfl,rfl,rfl,by simp,fun k hk _=>?_⟩
  rw[setRow_other _ _ _ _ (by omega)]
  exact Below.heap_alloc _ _ _ hk
set_option maxRecDepth 100000 in
theorem padded_any (s:ByteArray)(w:World)(hs:s.size<136) :
  Calls Tryz.prog 84 #[.string s] w fun e w' => e=.returned (.string (padS s))∧w.grownBy w' none:=by
 obtain⟨M,hM,hmk⟩:∃M:Array Value,Hid (M=bcells (List.replicate 136 0))∧∀w:World,(Instr.makeSlice 144 (.int .i64 136) (.int .i64 136)).run Tryz.prog w =
  .ok (.slice (some ⟨w.heap.size,0,none⟩) 136 136) (w.alloc (.cells M 5)):=⟨madeCells #[.int .u8 0] 136,by
   show madeCells #[.int .u8 0] 136=bcells (List.replicate 136 0)
   apply Array.toList_inj.1
   rw[toList_madeCells_one];simp[bcells],fun w=>make_bytes 136 (by omega) w⟩
 obtain⟨w1,hcopy,hrow,hg1⟩:=copy_str w s M hM.out hs
 have e:s.data.toList.length=s.size:=by rw[Array.length_toList];rfl
 have HE:=hide e
 clear e
 by_cases h135:s.size=135
 ·have hr2:=heap_setCell_at hrow 135 (.int .u8 ((1:UInt8).toNat:Int))
  rw[bcells_set] at hr2
  have hr3:=heap_setCell_at hr2 135 (.int .u8 ((129:UInt8).toNat:Int))
  rw[bcells_set,raw_135 _ (by rw[HE.out];exact h135)] at hr3
  have hc1:∃u,w1.cell? ⟨w.heap.size,135,none⟩=some u:=by
   rw[cell_of_row _ _ _ _ _ _ hrow,bcells_get]
   refine⟨_,by rw[List.getElem?_eq_getElem (by simp[rawL];have:=HE.out;omega)];rfl⟩
  obtain⟨u1,hu1⟩:=hc1
  have hf1:=frozen_of_row w1 w.heap.size 135 _ _ hrow
  have hor:bits BinOp.or IntKind.u8 1 128=129:=by decide +kernel
  have hcv:(convert 144 9 (.slice (some ⟨w.heap.size,0,none⟩) 136 136)).run Tryz.prog ((w1.setCell ⟨w.heap.size,135,none⟩ (.int .u8 1)).setCell ⟨w.heap.size,135,none⟩ (.int .u8 129))=.ok (.string (padS s)) ((w1.setCell ⟨w.heap.size,135,none⟩ (.int .u8 1)).setCell ⟨w.heap.size,135,none⟩ (.int .u8 129)):=bcells_conv hr3 136 (padL_length _ (by rw[HE.out];omega)) 136
  have HG:=hide (grown_set (grown_set hg1 w.heap.size 135 (.int .u8 1) (.inl (Nat.le_refl _))) w.heap.size 135 (.int .u8 129) (.inl (Nat.le_refl _)))
  clear hrow hg1 hr2 hr3
  generalize padS s=P at *
  go_enter Tryz.func84,Tryz.ntmps84
  go_wp2
  go_ret
  exact⟨rfl,HG.out⟩
 ·have hlt:s.size<135:=by omega
  have hr2:=heap_setCell_at hrow s.size (.int .u8 ((1:UInt8).toNat:Int))
  rw[bcells_set] at hr2
  have hr3:=heap_setCell_at hr2 135 (.int .u8 ((128:UInt8).toNat:Int))
  have hraw:=raw_less s.data.toList (by rw[HE.out];exact hlt)
  have hat:=raw_at s.data.toList (by rw[HE.out];exact hlt)
  rw[HE.out] at hraw hat
  rw[bcells_set,hraw] at hr3
  obtain⟨u1,hu1⟩:∃u,w1.cell? ⟨w.heap.size,s.size,none⟩=some u:=by
   rw[cell_of_row _ _ _ _ _ _ hrow,bcells_get]
   refine⟨_,by rw[List.getElem?_eq_getElem (by simp[rawL];have:=HE.out;omega)];rfl⟩
  have hf1:=frozen_of_row w1 w.heap.size s.size _ _ hrow
  have hc2:(w1.setCell ⟨w.heap.size,s.size,none⟩ (.int .u8 1)).cell? ⟨w.heap.size,135,none⟩=some (.int .u8 0):=by
   have h:=cell_of_row _ w.heap.size 135 _ _ _ hr2
   rw[bcells_get,hat] at h
   exact h
  have hf2:(w1.setCell ⟨w.heap.size,s.size,none⟩ (.int .u8 1)).frozen? ⟨w.heap.size,135,none⟩=false:=frozen_of_row _ w.heap.size 135 _ _ hr2
  have hor:bits BinOp.or IntKind.u8 0 128=128:=by decide +kernel
  have hcv:(convert 144 9 (.slice (some ⟨w.heap.size,0,none⟩) 136 136)).run Tryz.prog ((w1.setCell ⟨w.heap.size,s.size,none⟩ (.int .u8 1)).setCell ⟨w.heap.size,135,none⟩ (.int .u8 128))=.ok (.string (padS s)) ((w1.setCell ⟨w.heap.size,s.size,none⟩ (.int .u8 1)).setCell ⟨w.heap.size,135,none⟩ (.int .u8 128)):=bcells_conv hr3 136 (padL_length _ (by rw[HE.out];omega)) 136
  have HG:=hide (grown_set (grown_set hg1 w.heap.size s.size (.int .u8 1) (.inl (Nat.le_refl _))) w.heap.size 135 (.int .u8 128) (.inl (Nat.le_refl _)))
  clear hrow hg1 hr2 hr3 hraw hat h135
  generalize padS s=P at *
  have b1:(s.size:Int)<135:=by omega
  go_enter Tryz.func84,Tryz.ntmps84
  go_wp2
  go_ret
  exact⟨rfl,HG.out⟩
def outB (f:Nat→Nat)(i:Nat):UInt8:=UInt8.ofNat (f (i / 8) / 2 ^ (8 * (i % 8)) % 256)
def outL (f:Nat→Nat):List UInt8:=(List.range 32).map (outB f)
theorem out_eq (f:Nat→Nat)(i:Nat):((f (i / 8):Int) / 2 ^ (8 * (i % 8))) % 256=((outB f i).toNat:Int):=by
 unfold outB
 have e:((f (i / 8):Int) / 2 ^ (8 * (i % 8)))=((f (i / 8) / 2 ^ (8 * (i % 8)):Nat):Int):=by
  rw[Int.natCast_ediv,Int.natCast_pow];rfl
 rw[e]
 simp
set_option maxRecDepth 100000 in
theorem hash_any (b:Nat)(f:Nat→Nat)(w:World)(hA:At w b 158 25 f) :
  Calls Tryz.prog 85 #[.pointer (some ⟨b,0,none⟩)] w fun e w' => e=.returned (.string ⟨(outL f).toArray⟩)∧w.grownBy w' none:=by
 have hb:=hA.lt
 have HA:=hide hA
 clear hA
 obtain⟨M,hM,hmk⟩:∃M:Array Value,Hid (M.size=32)∧∀w:World,(Instr.makeSlice 144 (.int .i64 32) (.int .i64 32)).run Tryz.prog w =
  .ok (.slice (some ⟨w.heap.size,0,none⟩) 32 32) (w.alloc (.cells M 5)):=⟨madeCells #[.int .u8 0] 32,by simp[Hid,madeCells],fun w=>make_bytes 32 (by omega) w⟩
 go_enter Tryz.func85,Tryz.ntmps85
 go_wp2
 go_loopw [8] (fun i wr=>∃(k:Nat) (A:Array Value),k≤32∧i=.int .i64 (k:Int)∧wr=w.alloc (.cells A 5)∧Hid (A.size=32∧∀j,j<k→A[j]? = some (.int .u8 ((outB f j).toNat:Int)))) (fun i _=>32 - (intOf i).toNat)
 case atStart=>exact⟨0,M,Nat.zero_le _,rfl,rfl,hM.out,by omega⟩
 case round =>
  obtain⟨k,A,hk,rfl,rfl,hj⟩:=hrel
  by_cases hlt:k<32
  ·have hx:=(HA.out.alloc (.cells A 5)).cell (k / 8) (by omega)
   have HO:=hide (out_eq f k)
   have b0:(0:Int)≤(k:Int):=by omega
   have b1:(k:Int)<32:=by omega
   have hsz:=hj.out.1
   go_wp2
   rw[HO.out]
   go_roundw
   case rel =>
    refine⟨k+1,_,by omega,by go_num,rfl,by simp[hsz],?_⟩
    intro j hj2
    rw[Array.getElem?_setIfInBounds]
    by_cases e:k=j
    ·subst e;simp[hsz,hlt]
    ·rw[if_neg e];exact hj.out.2 j (by omega)
   case measure=>simp[intOf];omega
  ·have HE:Hid (A=bcells (outL f)):=by
    have hsz:=hj.out.1
    apply Array.ext_getElem?
    intro j
    rw[bcells_get]
    by_cases hj3:j<32
    ·rw[hj.out.2 j (by omega)];simp[outL,hj3]
    ·rw[Array.getElem?_eq_none (by omega)];simp[outL,List.getElem?_eq_none (show (List.range 32).length≤j by simp;omega)]
   have hcv:=bcells_conv (w:=w.alloc (.cells A 5)) (g:=w.heap.size) (l:=outL f) (by rw[←HE.out];exact heap_alloc_new w _) 32 (by simp[outL]) 32
   have HG:=hide (World.grownBy_alloc w (.cells A 5) none)
   clear hj HE
   go_wp2
   go_ret
   exact⟨rfl,HG.out⟩
def zeroF:Nat→Nat:=fun _=>0
theorem zeroF_w (j:Nat):W64 (zeroF j):=by unfold W64 zeroF;omega
def spTo (s:ByteArray):Nat→Nat→Nat
 | 0=>zeroF
 | m+1=>absF (spTo s m) (s.extract (136 * m) (136 * m+136))
theorem spTo_w (s:ByteArray):∀m j,W64 (spTo s m j)
 | 0,j=>zeroF_w j
 | m+1,j=>absF_w (spTo_w s m) _ j
def hashOf (s:ByteArray):ByteArray:=⟨(outL (absF (spTo s (s.size / 136)) (padS (s.extract (136 * (s.size / 136)) s.size)))).toArray⟩
theorem ext_bytes {a b:ByteArray}(h:a.data.toList=b.data.toList):a=b:=by
 have h2:a.data=b.data:=Array.toList_inj.1 h
 cases a;cases b;cases h2;rfl
theorem ext_take (s:ByteArray)(m:Nat)(h:136 * m+136≤s.size):(s.extract (136 * m) s.size).extract 0 136=s.extract (136 * m) (136 * m+136):=by
 apply ext_bytes
 rw[Lib.extract_data,Lib.extract_data,Lib.extract_data]
 simp only[List.drop_zero,Nat.sub_zero,List.take_take]
 congr 1
 omega
theorem ext_drop (s:ByteArray)(m:Nat)(h:136 * m+136≤s.size):(s.extract (136 * m) s.size).extract 136 (s.size - 136 * m)=s.extract (136 * (m+1)) s.size:=by
 apply ext_bytes
 rw[Lib.extract_data,Lib.extract_data,Lib.extract_data]
 rw[List.drop_take,List.take_take,List.drop_drop]
 rw[show 136 * m+136=136 * (m+1) from by omega]
 rw[show min (s.size - 136 * m - 136) (s.size - 136 * m - 136)=s.size - 136 * (m+1) from by omega]
theorem ext_all (s:ByteArray):s.extract 0 s.size=s:=by
 apply ext_bytes
 rw[Lib.extract_data,Lib.size_eq,List.drop_zero,Nat.sub_zero,List.take_length]
set_option maxRecDepth 100000 in
theorem sum_any (s:ByteArray)(w:World)(hT:Tabs w)(h2:3≤w.heap.size)(hs:s.size≤9223372036854775000) :
  Calls Tryz.prog 47 #[.string s] w fun e w' => e=.returned (.string (hashOf s))∧w.grownBy w' none:=by
 have HT:=hide hT
 clear hT
 go_enter Tryz.func47,Tryz.ntmps47
 go_wp2
 go_loopw [0] (fun v wr=>∃(m:Nat) (r:ByteArray),Hid (136 * m≤s.size)∧v=.string r∧Hid (r=s.extract (136 * m) s.size∧r.size=s.size - 136 * m)∧At wr w.heap.size 158 25 (spTo s m)∧w.grownBy wr none) (fun v _=>match v with | .string r=>r.size|_=>0)
 case atStart=>exact⟨0,s,Nat.zero_le _,rfl,⟨(ext_all s).symm,rfl⟩,heap_alloc_new w _,World.grownBy_alloc w _ _⟩
 case round =>
  obtain⟨m,r,hm,rfl,hr,hA,hg⟩:=hrel
  have HA:=hide hA
  have HG:=hide hg
  clear hA hg
  by_cases hlt:136≤r.size
  ·have HX:Hid (r.extract 0 136=s.extract (136 * m) (136 * m+136)):=by show _=_;rw[hr.out.1];exact ext_take s m (by have:=hr.out.2;omega)
   have HY:Hid (r.extract 136 r.size=s.extract (136 * (m+1)) s.size):=by show _=_;rw[hr.out.2,hr.out.1];exact ext_drop s m (by have:=hr.out.2;omega)
   have hb1:(136:Int)≤(r.size:Int):=by omega
   have hb2:(r.size:Int)≤9223372036854775000:=by have:=hr.out.2;omega
   go_wp2_with fail
   rw[HX.out]
   refine (absorb_any w.heap.size (spTo s m) _ wr HA.out (spTo_w s m) (HT.out.grownN HG.out) h2 (by rw[ByteArray.size_extract];have:=hr.out.2;omega)).mono ?_
   rintro e w1 ⟨rfl,ha1,hg1⟩
   have H1:Hid (At w1 w.heap.size 158 25 (spTo s (m+1))∧w.grownBy w1 none):=⟨ha1,HG.out.andThen hg1 (fun j e=>by
    obtain rfl:w.heap.size=j:=by simpa using e
    exact .inl (Nat.le_refl _))⟩
   clear ha1 hg1
   go_wp2
   go_roundw
   case rel=>exact⟨m+1,_,by have:=hr.out.2;have:=hm.out;show 136 * (m+1)≤s.size;omega,rfl,⟨HY.out,by rw[ByteArray.size_extract];have:=hr.out.2;omega⟩,H1.out.1,H1.out.2⟩
   case measure=>simp;omega
  ·have hq:s.size / 136=m:=by have:=hr.out.2;have:=hm.out;omega
   have HH:Hid (hashOf s=⟨(outL (absF (spTo s m) (padS r))).toArray⟩):=by show hashOf s=_;unfold hashOf;rw[hq,←hr.out.1]
   have hb1:(r.size:Int)<136:=by omega
   have hb2:r.size<136:=by omega
   clear hq
   go_wp2_with fail
   refine (padded_any r wr hb2).mono ?_
   rintro e w1 ⟨rfl,hg1⟩
   have H1:=hide hg1
   clear hg1
   go_wp2_with fail
   refine (absorb_any w.heap.size (spTo s m) (padS r) w1 (HA.out.grown H1.out (by simp)) (spTo_w s m) ((HT.out.grownN HG.out).grownN H1.out) h2 (padS_size r hb2)).mono ?_
   rintro e w2 ⟨rfl,ha2,hg2⟩
   have H2:=hide (And.intro ha2 hg2)
   clear ha2 hg2
   go_wp2_with fail
   refine (hash_any w.heap.size _ w2 H2.out.1).mono ?_
   rintro e w3 ⟨rfl,hg3⟩
   have HF:Hid (w.grownBy w3 none):=((HG.out.trans H1.out).andThen H2.out.2 (fun j e=>by
    obtain rfl:w.heap.size=j:=by simpa using e
    exact .inl (Nat.le_refl _))).trans hg3
   clear hg3
   go_wp2
   go_ret
   exact⟨by rw[HH.out];rfl,HF.out⟩
end Go.Proofs.YthdjmldddjljfaaGreatDoor
namespace Go.Proofs.YthdjmldddjljfaaGreatDoor.V
open Go.RowKit
theorem info27:(Tryz.prog.info? 156).map (fun i=>(i.zero,i.size,i.bytes))=some (some (.int .u64 0),1,8):=by kernel_rfl
def nextR (r:Nat):Nat:=if 255 < 2 * r then (2 * r - 256) ^^^ 113 else 2 * r
def rs:Nat→Nat
 | 0=>1
 | n+1=>nextR (rs n)
def wTo (k:Nat):Nat→Nat
 | 0=>0
 | j+1=>if rs (7 * k+j) % 2=1 then wTo k j ||| 2 ^ (2 ^ j - 1) else wTo k j
theorem wTo_rc:∀k:Fin 24,wTo k.val 7=rc k.val:=by decide +kernel
theorem nextR_lt (r:Nat)(h:r<256):nextR r<256:=by
 unfold nextR
 split
 ·have:(2 * r - 256) ^^^ 113 < 2 ^ 8:=Nat.xor_lt_two_pow (by omega) (by omega)
  omega
 ·omega
theorem rs_lt:∀n,rs n<256
 | 0=>by simp[rs]
 | n+1=>nextR_lt _ (rs_lt n)
theorem wTo_w (k:Nat):∀j,j≤7→W64 (wTo k j)
 | 0,_=>by unfold W64;simp[wTo]
 | j+1,h=>by
   simp only[wTo]
   split
   ·refine W64.or (wTo_w k j (by omega)) ?_
    have h1:2 ^ j≤2 ^ 6:=Nat.pow_le_pow_right (by omega) (by omega)
    have h2:2 ^ (2 ^ j - 1)≤2 ^ 63:=Nat.pow_le_pow_right (by omega) (by omega)
    unfold W64;omega
   ·exact wTo_w k j (by omega)
theorem xor113_fin:∀a:Fin 256,bits BinOp.xor IntKind.i64 (a.val:Int) 113=((a.val ^^^ 113:Nat):Int):=by decide +kernel
theorem news_ofT (w:World)(t:TypeId)(l:List Value):∀j u,l[j]? = some u→(w.alloc (.cells l.toArray t)).cell? ((⟨w.heap.size,0,none⟩:Addr).add j)=some u :=
 World.news_of_block (cs:=l.toArray) (t:=t) (fr:=(0,0)) (heap_alloc_new w _)
theorem sh_fin:∀j:Fin 7,IntKind.u64.wrap (2 ^ min (IntKind.u64.wrap (IntKind.u64.wrap (2 ^ j.val) - 1)).toNat 64)=((2 ^ (2 ^ j.val - 1):Nat):Int):=by decide +kernel
theorem next_big (r:Nat)(hr:r<256)(h:(255:Int)<2 * (r:Int)):Value.int IntKind.i64 (bits BinOp.xor IntKind.i64 (2 * (r:Int) - 256) 113)=.int .i64 ((nextR r:Nat):Int):=by
 have e:(2 * (r:Int) - 256)=(((2 * r - 256:Nat)):Int):=by omega
 rw[e,xor113_fin ⟨2 * r - 256,by omega⟩]
 unfold nextR
 rw[if_pos (by omega)]
theorem next_small (r:Nat)(h:2 * (r:Int)≤255):Value.int IntKind.i64 (2 * (r:Int))=.int .i64 ((nextR r:Nat):Int):=by
 unfold nextR
 rw[if_neg (by omega)]
 congr 1
theorem w_odd (r j x:Nat)(hj:j<7)(hx:W64 x)(h:((r:Int) % 2 == 1)=true):Value.int IntKind.u64 (bits BinOp.or IntKind.u64 (x:Int) (IntKind.u64.wrap (2 ^ min (IntKind.u64.wrap (IntKind.u64.wrap (2 ^ j) - 1)).toNat 64)))=.int .u64 ((if r % 2=1 then x ||| 2 ^ (2 ^ j - 1) else x:Nat):Int):=by
 have h1:2 ^ j≤2 ^ 6:=Nat.pow_le_pow_right (by omega) (by omega)
 have h2:2 ^ (2 ^ j - 1)≤2 ^ 63:=Nat.pow_le_pow_right (by omega) (by omega)
 rw[sh_fin ⟨j,hj⟩,u64_or_nat _ _ hx.lt (by show 2 ^ (2 ^ j - 1)<_;omega),if_pos (by simp at h;omega)]
theorem w_even (r j x:Nat)(h:((r:Int) % 2 == 1)=false):Value.int IntKind.u64 (x:Int)=.int .u64 ((if r % 2=1 then x ||| 2 ^ (2 ^ j - 1) else x:Nat):Int):=by
 rw[if_neg (by simp at h;omega)]
theorem arr_snoc (k:Nat)(f:Nat→Nat):(arr k f).toList++[.int .u64 ((f k:Nat):Int)]=(arr (k+1) f).toList:=by
 rw[arr_toList,arr_toList,List.range_succ,List.map_append];rfl
set_option maxRecDepth 100000 in
theorem constants_any (w:World) :
  Calls Tryz.prog 94 #[] w fun e w' => ∃v,e=.returned v∧w'.ownsRow w.heap.size 156 1 v 24 (arr 24 rc).toList∧Below w.heap.size w w' := by
 obtain⟨i0,hi,hz0,hz1,hz2⟩:=info_parts info27
 go_enter Tryz.func94,Tryz.ntmps94
 go_wp2
 go_loopw [1,2,3] (fun v r i wr=>∃k:Nat,k≤24∧i=.int .i64 (k:Int)∧r=.int .i64 ((rs (7 * k):Nat):Int)∧wr.ownsRow w.heap.size 156 1 v k (arr k rc).toList∧Below w.heap.size w wr) (fun _ _ i _=>24 - (intOf i).toNat)
 case atStart=>exact⟨0,Nat.zero_le _,rfl,rfl,World.ownsRow_nil _ _ _ _,Below.refl _ _⟩
 case round =>
  obtain⟨k,hk,rfl,rfl,hown,hb⟩:=hrel
  have HO:=hide hown
  have HB:=hide hb
  clear hown hb
  by_cases hlt:k<24
  ·go_wp2
   obtain⟨wo,hwo⟩:∃wo:World,wo=wr:=⟨_,rfl⟩
   subst hwo
   go_loop [2,4,5] (fun r v i=>∃j:Nat,j≤7∧i=.int .i64 (j:Int)∧r=.int .i64 ((rs (7 * k+j):Nat):Int)∧v=.int .u64 ((wTo k j:Nat):Int)) (fun _ _ i=>7 - (intOf i).toNat)
   case atStart=>exact⟨0,Nat.zero_le _,rfl,rfl,rfl⟩
   case round =>
    obtain⟨j,hj,rfl,rfl,rfl⟩:=hrel
    by_cases hj7:j<7
    ·have hr:=rs_lt (7 * k+j)
     have HR:Hid (rs (7 * k+(j+1))=nextR (rs (7 * k+j))):=rfl
     have HW:Hid (wTo k (j+1)=if rs (7 * k+j) % 2=1 then wTo k j ||| 2 ^ (2 ^ j - 1) else wTo k j):=rfl
     have hww:=wTo_w k j (by omega)
     generalize rs (7 * k+j)=r at *
     generalize wTo k j=x at *
     go_wp2
     all_goals
      go_round
      case rel =>
       refine⟨j+1,by omega,by go_num,?_,?_⟩
       ·rw[HR.out]
        first|exact next_big r hr ‹_› | exact next_small r ‹_›
       ·rw[HW.out]
        first|exact w_odd r j x hj7 hww ‹_› | exact w_even r j x ‹_›
      case measure=>simp[intOf];omega
    ·have hj8:j=7:=by omega
     have HR:Hid (rs (7 * k+j)=rs (7 * (k+1))):=by show _=_;rw[hj8,show 7 * k+7=7 * (k+1) from by omega]
     have HW:Hid (wTo k j=rc k):=by show _=_;rw[hj8];exact wTo_rc ⟨k,hlt⟩
     clear hj8
     rw[HR.out,HW.out]
     have HS:=hide (arr_snoc k rc)
     go_wp2_with (at_builtin;go_must (refine wpList_append_lies _ rfl (.tmp 30) (.tmp 32) 169 rfl w.heap.size 156 i0 (.int .u64 0) 1 8 Tryz.underlying169 hi hz0 hz1 hz2 rfl (by decide) u1 k _ rfl (HO.out.alloc _) ⟨wo.heap.size,0,none⟩ 1 1 [.int .u64 ((rc k:Nat):Int)] rfl rfl (news_ofT wo 156 [.int .u64 ((rc k:Nat):Int)]) (by simp[Value.oneCell']) (by omega) (by unfold maxLen;omega) (by omega) (by have:=HB.out.size;simp;omega) _ rfl ?_);intro g c w1 hown1 hgrow1 hat1 hlt1;go_must (have HB1:=hide ((HB.out.alloc HB.out.size _).grown hgrow1 (by have:=HB.out.size;simp;omega) (own_ge HO.out (Nat.le_refl _))));go_must (rw[HS.out] at hown1;have HO1:=hide hown1);clear hown1 hgrow1)
     go_roundw
     case rel=>exact⟨k+1,by omega,by go_num,rfl,HO1.out,HB1.out⟩
     case measure=>simp[intOf];omega
  ·have hk24:k=24:=by omega
   rw[hk24] at HO
   clear hk24
   go_wp2
   go_ret
   exact⟨_,rfl,HO.out,HB.out⟩
theorem make_words (n:Nat)(h:n≤1000)(w:World):(Instr.makeSlice 169 (.int .i64 (n:Int)) (.int .i64 (n:Int))).run Tryz.prog w =
  .ok (.slice (some ⟨w.heap.size,0,none⟩) n n) (w.alloc (.cells (arr n zeroF) 156)):=by
 obtain⟨i0,hi,hz0,hz1,hz2⟩:=info_parts info27
 have h:=run_make (P:=Tryz.prog) w 169 156 i0 (.int .u64 0) Tryz.underlying169 hi hz0 .i64 .i64 (n:Int) (n:Int) (by omega) (Int.le_refl _) (by rw[hz2];omega) (by omega)
 have e:madeCells #[.int .u64 0] n=arr n zeroF:=by
  apply Array.toList_inj.1
  rw[toList_madeCells_one,arr_toList]
  apply List.ext_getElem (by simp)
  intro i h1 h2
  simp[zeroF]
 rw[←e]
 simpa[hz1,Value.cells] using h
theorem make5 (w:World):(Instr.makeSlice 169 (.int .i64 5) (.int .i64 5)).run Tryz.prog w=.ok (.slice (some ⟨w.heap.size,0,none⟩) 5 5) (w.alloc (.cells (arr 5 zeroF) 156)):=make_words 5 (by omega) w
theorem make25 (w:World):(Instr.makeSlice 169 (.int .i64 25) (.int .i64 25)).run Tryz.prog w=.ok (.slice (some ⟨w.heap.size,0,none⟩) 25 25) (w.alloc (.cells (arr 25 zeroF) 156)):=make_words 25 (by omega) w
theorem turned_one (a:Nat)(w:World)(ha:W64 a):Calls Tryz.prog 118 #[.int .u64 (a:Nat),.int .i64 1] w fun e w' => e=.returned (.int .u64 (rot a 1:Nat))∧∃n,w' = w.drewN n:=turned_any a 1 w ha (by omega)
def xt (t:Nat):Nat:=[1,0,2,1,2,3,3,0,1,3,1,4,4,0,3,4,3,2,2,0,4,2,4,1,1].getD t 0
def yt (t:Nat):Nat:=[0,2,1,2,3,3,0,1,3,1,4,4,0,3,4,3,2,2,0,4,2,4,1,1,0].getD t 0
def ns (t:Nat):Nat:=[0,1,3,6,10,15,21,28,36,45,55,66,78,91,105,120,136,153,171,190,210,231,253,276,300].getD t 0
theorem walk_fin:∀t:Fin 24,xt (t.val+1)=yt t.val∧yt (t.val+1)=(2 * xt t.val+3 * yt t.val) % 5∧ns (t.val+1)=ns t.val+t.val+1∧xt t.val<5∧yt t.val<5∧ns (t.val+1)<1000∧yt (t.val+1)<5:=by decide +kernel
def rqG (R:Nat→Nat→Nat)(f:Nat→Nat):Nat→Nat→Nat
 | 0=>updK zeroF 0 (f 0)
 | t+1=>updK (rqG R f t) (yt t+5 * yt (t+1)) (R (f (xt t+5 * yt t)) (ns (t+1) % 64))
def rpG (R:Nat→Nat→Nat)(f:Nat→Nat):Nat→Nat→Nat
 | 0=>fun _=>0
 | k+1=>updK (rpG R f k) (dest k) (R (f k) (tu k))
theorem rpG_rot (f:Nat→Nat):∀k,rpG rot f k=rpTo f k
 | 0=>rfl
 | k+1=>by simp only[rpG,rpTo,rpG_rot f k]
def rqTo (f:Nat→Nat):Nat→Nat→Nat:=rqG rot f
theorem rq_at1 (R:Nat→Nat→Nat)(f:Nat→Nat):rqG R f 24 1=rpG R f 25 1:=by kernel_rfl
theorem rq_at2 (R:Nat→Nat→Nat)(f:Nat→Nat):rqG R f 24 2=rpG R f 25 2:=by kernel_rfl
theorem rq_at3 (R:Nat→Nat→Nat)(f:Nat→Nat):rqG R f 24 3=rpG R f 25 3:=by kernel_rfl
theorem rq_at4 (R:Nat→Nat→Nat)(f:Nat→Nat):rqG R f 24 4=rpG R f 25 4:=by kernel_rfl
theorem rq_at5 (R:Nat→Nat→Nat)(f:Nat→Nat):rqG R f 24 5=rpG R f 25 5:=by kernel_rfl
theorem rq_at6 (R:Nat→Nat→Nat)(f:Nat→Nat):rqG R f 24 6=rpG R f 25 6:=by kernel_rfl
theorem rq_at7 (R:Nat→Nat→Nat)(f:Nat→Nat):rqG R f 24 7=rpG R f 25 7:=by kernel_rfl
theorem rq_at8 (R:Nat→Nat→Nat)(f:Nat→Nat):rqG R f 24 8=rpG R f 25 8:=by kernel_rfl
theorem rq_at9 (R:Nat→Nat→Nat)(f:Nat→Nat):rqG R f 24 9=rpG R f 25 9:=by kernel_rfl
theorem rq_at10 (R:Nat→Nat→Nat)(f:Nat→Nat):rqG R f 24 10=rpG R f 25 10:=by kernel_rfl
theorem rq_at11 (R:Nat→Nat→Nat)(f:Nat→Nat):rqG R f 24 11=rpG R f 25 11:=by kernel_rfl
theorem rq_at12 (R:Nat→Nat→Nat)(f:Nat→Nat):rqG R f 24 12=rpG R f 25 12:=by kernel_rfl
theorem rq_at13 (R:Nat→Nat→Nat)(f:Nat→Nat):rqG R f 24 13=rpG R f 25 13:=by kernel_rfl
theorem rq_at14 (R:Nat→Nat→Nat)(f:Nat→Nat):rqG R f 24 14=rpG R f 25 14:=by kernel_rfl
theorem rq_at15 (R:Nat→Nat→Nat)(f:Nat→Nat):rqG R f 24 15=rpG R f 25 15:=by kernel_rfl
theorem rq_at16 (R:Nat→Nat→Nat)(f:Nat→Nat):rqG R f 24 16=rpG R f 25 16:=by kernel_rfl
theorem rq_at17 (R:Nat→Nat→Nat)(f:Nat→Nat):rqG R f 24 17=rpG R f 25 17:=by kernel_rfl
theorem rq_at18 (R:Nat→Nat→Nat)(f:Nat→Nat):rqG R f 24 18=rpG R f 25 18:=by kernel_rfl
theorem rq_at19 (R:Nat→Nat→Nat)(f:Nat→Nat):rqG R f 24 19=rpG R f 25 19:=by kernel_rfl
theorem rq_at20 (R:Nat→Nat→Nat)(f:Nat→Nat):rqG R f 24 20=rpG R f 25 20:=by kernel_rfl
theorem rq_at21 (R:Nat→Nat→Nat)(f:Nat→Nat):rqG R f 24 21=rpG R f 25 21:=by kernel_rfl
theorem rq_at22 (R:Nat→Nat→Nat)(f:Nat→Nat):rqG R f 24 22=rpG R f 25 22:=by kernel_rfl
theorem rq_at23 (R:Nat→Nat→Nat)(f:Nat→Nat):rqG R f 24 23=rpG R f 25 23:=by kernel_rfl
theorem rq_at24 (R:Nat→Nat→Nat)(f:Nat→Nat):rqG R f 24 24=rpG R f 25 24:=by kernel_rfl
theorem rq_at0 (R:Nat→Nat→Nat)(f:Nat→Nat):rqG R f 24 0=f 0:=by kernel_rfl
theorem rp_at0 (R:Nat→Nat→Nat)(f:Nat→Nat):rpG R f 25 0=R (f 0) 0:=by kernel_rfl
theorem rqG_rpG (R:Nat→Nat→Nat)(f:Nat→Nat)(h0:R (f 0) 0=f 0)(j:Nat)(hj:j<25):rqG R f 24 j=rpG R f 25 j:=by
 rcases (show j=0∨j=1∨j=2∨j=3∨j=4∨j=5∨j=6∨j=7∨j=8∨j=9∨j=10∨j=11∨j=12∨j=13∨j=14∨j=15∨j=16∨j=17∨j=18∨j=19∨j=20∨j=21∨j=22∨j=23∨j=24 from by omega) with h|h|h|h|h|h|h|h|h|h|h|h|h|h|h|h|h|h|h|h|h|h|h|h|h<;>subst h
 ·rw[rq_at0,rp_at0,h0]
 ·exact rq_at1 R f
 ·exact rq_at2 R f
 ·exact rq_at3 R f
 ·exact rq_at4 R f
 ·exact rq_at5 R f
 ·exact rq_at6 R f
 ·exact rq_at7 R f
 ·exact rq_at8 R f
 ·exact rq_at9 R f
 ·exact rq_at10 R f
 ·exact rq_at11 R f
 ·exact rq_at12 R f
 ·exact rq_at13 R f
 ·exact rq_at14 R f
 ·exact rq_at15 R f
 ·exact rq_at16 R f
 ·exact rq_at17 R f
 ·exact rq_at18 R f
 ·exact rq_at19 R f
 ·exact rq_at20 R f
 ·exact rq_at21 R f
 ·exact rq_at22 R f
 ·exact rq_at23 R f
 ·exact rq_at24 R f
theorem rq_rp {f:Nat→Nat}(h:∀j,W64 (f j)):∀j,j<25→rqTo f 24 j=rpTo f 25 j:=by
 intro j hj
 rw[←rpG_rot]
 exact rqG_rpG rot f (rot_zero (h 0)) j hj
theorem thetaR (f:Nat→Nat)(j:Nat):(f j ^^^ colTo f 25 ((j+4) % 5)) ^^^ rot (colTo f 25 ((j+1) % 5)) 1=thetaF f j:=by
 unfold thetaF
 rw[Nat.xor_assoc,show (j % 5+4) % 5=(j+4) % 5 from by omega,show (j % 5+1) % 5=(j+1) % 5 from by omega]
theorem chiR (f:Nat→Nat)(j:Nat):f j ^^^ ((18446744073709551615 - f (j - j % 5+(j+1) % 5)) &&& f (j - j % 5+(j+2) % 5))=chiF f j:=by
 unfold chiF
 rw[show (j % 5+1) % 5=(j+1) % 5 from by omega,show (j % 5+2) % 5=(j+2) % 5 from by omega]
set_option maxRecDepth 100000 in
theorem permuted_any (ga gc cc:Nat)(f:Nat→Nat)(w:World)(hA:At w ga 156 25 f)(hf:∀j,W64 (f j))(hC:∀j,j<24→w.cell? ⟨gc,j,none⟩=some (.int .u64 ((rc j:Nat):Int))) :
  Calls Tryz.prog 95 #[.slice (some ⟨ga,0,none⟩) 25 25,.slice (some ⟨gc,0,none⟩) 24 cc] w fun e w' => ∃g,e=.returned (.slice (some ⟨g,0,none⟩) 25 25)∧At w' g 156 25 (permTo f 24)∧w.heap.size≤g∧w.grownBy w' none:=by
 have hm5:=make5
 have hm25:=make25
 have HA:=hide hA
 have HC:=hide hC
 have HW:=hide (fun k=>permTo_w hf k)
 clear hA hC hf
 go_enter Tryz.func95,Tryz.ntmps95
 go_wp2
 go_loopw [0,5] (fun v i wr=>∃k g:Nat,k≤24∧i=.int .i64 (k:Int)∧v=.slice (some ⟨g,0,none⟩) 25 25∧At wr g 156 25 (permTo f k)∧Hid (k=0∨w.heap.size≤g)∧w.grownBy wr none) (fun _ i _=>24 - (intOf i).toNat)
 case atStart=>exact⟨0,ga,Nat.zero_le _,rfl,rfl,HA.out,.inl rfl,World.grownBy.refl _ _⟩
 case round =>
  obtain⟨k,g,hk,rfl,rfl,hA,hkg,hg⟩:=hrel
  have HP:=hide hA
  have HG:=hide hg
  clear hA hg HA
  by_cases hlt:k<24
  ·have hF:=HW.out k
   generalize hpk:permTo f k=F at *
   have HPK:=hide hpk
   clear hpk
   obtain⟨wo,hwo⟩:∃wo:World,wo=wr:=⟨_,rfl⟩
   subst hwo
   have hkd:decide ((k:Int)<24)=true:=by simp;omega
   go_wp2
   clear hkd
   go_loopw [7] (fun i wr=>∃k:Nat,k≤25∧i=.int .i64 (k:Int)∧At wr wo.heap.size 156 5 (colTo F k)∧wo.grownBy wr none) (fun i _=>25 - (intOf i).toNat)
   case atStart=>exact⟨0,Nat.zero_le _,rfl,heap_alloc_new wo _,World.grownBy_alloc wo _ _⟩
   case round =>
    obtain⟨i,hi,rfl,hC2,hg⟩:=hrel
    by_cases hil:i<25
    ·have hx:=hC2.cell (i % 5) (by omega)
     have hfz:=hC2.free (i % 5)
     have hy:=(HP.out.grown hg (by simp)).cell i hil
     have hxor:=xor_u64 (colTo F i (i % 5)) (F i) (colTo_w hF _ _) (hF i)
     have HS:Hid (∀nq,At ((wr.drewN nq).setCell ⟨wo.heap.size,i % 5,none⟩ (.int .u64 ((colTo F i (i % 5) ^^^ F i:Nat):Int))) wo.heap.size 156 5 (colTo F (i+1))∧wo.grownBy ((wr.drewN nq).setCell ⟨wo.heap.size,i % 5,none⟩ (.int .u64 ((colTo F i (i % 5) ^^^ F i:Nat):Int))) none) :=
      fun nq=>⟨(At.set (w:=wr.drewN nq) hC2 (i % 5) _).congr (fun j _=>colTo_succ F i j),grown_set (grown_drewN hg nq) _ _ _ (.inl (Nat.le_refl _))⟩
     generalize colTo F i (i % 5) ^^^ F i=z at *
     generalize colTo F i (i % 5)=x at *
     generalize F i=y at hy hxor
     clear hC2 hg
     obtain⟨p,hp⟩:∃p,Hid (i % 5=p):=⟨_,rfl⟩
     rw[hp.out] at hx hfz HS
     have b0:(0:Int)≤(i:Int):=by omega
     have b1:(i:Int)<25:=by omega
     have r1:(i:Int).tmod 5=(p:Int):=by rw[Int.tmod_eq_emod_of_nonneg (by omega)];have:=hp.out;omega
     have b2:(0:Int)≤(p:Int):=by omega
     have b3:(p:Int)<5:=by have:=hp.out;omega
     go_wp2
     go_region
     all_goals
      go_wp2
      go_roundw
      case rel=>exact⟨i+1,by omega,by go_num,(HS.out 1).1,(HS.out 1).2⟩
      case measure=>simp[intOf];omega
    ·have hi25:i=25:=by omega
     rw[hi25] at hC2
     have HS2:=hide hC2
     have HG2:=hide hg
     clear hC2 hg hi25
     obtain⟨w2,hw2⟩:∃w2:World,w2=wr:=⟨_,rfl⟩
     subst hw2
     have hid:decide ((i:Int)<25)=false:=by simp;omega
     go_wp2
     clear hid hil hi
     go_loopw [9] (fun i wr=>∃k:Nat,k≤25∧i=.int .i64 (k:Int)∧At wr w2.heap.size 156 25 (upTo k (thetaF F) zeroF)∧w2.grownBy wr none) (fun i _=>25 - (intOf i).toNat)
     case atStart=>exact⟨0,Nat.zero_le _,rfl,At.congr (heap_alloc_new w2 _) (fun j _=>upTo_zero _ _ j),World.grownBy_alloc w2 _ _⟩
     case round =>
      obtain⟨j,hj,rfl,hB,hg⟩:=hrel
      by_cases hjl:j<25
      ·have hx:=((HP.out.grown HG2.out (by simp)).grown hg (by simp)).cell j hjl
       have hs1:=(HS2.out.grown hg (by simp)).cell ((j+4) % 5) (by omega)
       have hs2:=(HS2.out.grown hg (by simp)).cell ((j+1) % 5) (by omega)
       have hfz:=hB.free j
       obtain⟨u0,hu0⟩:∃u,wr.cell? ⟨w2.heap.size,j,none⟩=some u:=⟨_,hB.cell j hjl⟩
       have w1:=colTo_w hF 25 ((j+4) % 5)
       have w2' := colTo_w hF 25 ((j+1) % 5)
       have hxor1:=xor_u64 (F j) (colTo F 25 ((j+4) % 5)) (hF j) w1
       have hxor2:=xor_u64 (F j ^^^ colTo F 25 ((j+4) % 5)) (rot (colTo F 25 ((j+1) % 5)) 1) (W64.xor (hF j) w1) (rot_w w2' 1)
       have HS:Hid (∀nq,At ((wr.drewN nq).setCell ⟨w2.heap.size,j,none⟩ (.int .u64 ((thetaF F j:Nat):Int))) w2.heap.size 156 25 (upTo (j+1) (thetaF F) zeroF)∧w2.grownBy ((wr.drewN nq).setCell ⟨w2.heap.size,j,none⟩ (.int .u64 ((thetaF F j:Nat):Int))) none) :=
        fun nq=>⟨(At.set (w:=wr.drewN nq) hB j _).congr (fun t _=>upTo_succ j _ _ t),grown_set (grown_drewN hg nq) _ _ _ (.inl (Nat.le_refl _))⟩
       rw[←thetaR] at HS
       clear hB hg
       generalize (F j ^^^ colTo F 25 ((j+4) % 5)) ^^^ rot (colTo F 25 ((j+1) % 5)) 1=T at *
       generalize F j ^^^ colTo F 25 ((j+4) % 5)=xy at *
       generalize colTo F 25 ((j+4) % 5)=y at *
       generalize hY:colTo F 25 ((j+1) % 5)=z at *
       clear hY
       generalize F j=x at hx hxor1
       obtain⟨p1,hp1⟩:∃p,Hid ((j+4) % 5=p):=⟨_,rfl⟩
       obtain⟨p2,hp2⟩:∃p,Hid ((j+1) % 5=p):=⟨_,rfl⟩
       rw[hp1.out] at hs1
       rw[hp2.out] at hs2
       have b0:(0:Int)≤(j:Int):=by omega
       have b1:(j:Int)<25:=by omega
       have r1:IntKind.i64.wrap ((j:Int)+4)=(j:Int)+4:=by rw[IntKind.wrap_i64];omega
       have r2:IntKind.i64.wrap ((j:Int)+1)=(j:Int)+1:=by rw[IntKind.wrap_i64];omega
       have r3:((j:Int)+4).tmod 5=(p1:Int):=by rw[Int.tmod_eq_emod_of_nonneg (by omega)];have:=hp1.out;omega
       have r4:((j:Int)+1).tmod 5=(p2:Int):=by rw[Int.tmod_eq_emod_of_nonneg (by omega)];have:=hp2.out;omega
       have b2:(0:Int)≤(p1:Int):=by omega
       have b3:(p1:Int)<5:=by have:=hp1.out;omega
       have b4:(0:Int)≤(p2:Int):=by omega
       have b5:(p2:Int)<5:=by have:=hp2.out;omega
       have l1:=World.block_lt_of_cell? wr _ hu0
       have l2:=World.block_lt_of_cell? wr _ hx
       have l3:=World.block_lt_of_cell? wr _ hs1
       have g1:g<wo.heap.size:=HP.out.lt
       have g2:wo.heap.size<w2.heap.size:=HS2.out.lt
       have n1:∀(W:World) (u:Value),(W.setCell ⟨w2.heap.size,j,none⟩ u).cell? ⟨g,j,none⟩=W.cell? ⟨g,j,none⟩:=fun W u=>World.cell?_of_block (a:=⟨g,j,none⟩) (Below.heap_setCell _ _ _ _ (by simp;omega))
       have n2:∀(W:World) (u:Value),(W.setCell ⟨w2.heap.size,j,none⟩ u).cell? ⟨wo.heap.size,p1,none⟩=W.cell? ⟨wo.heap.size,p1,none⟩:=fun W u=>World.cell?_of_block (a:=⟨wo.heap.size,p1,none⟩) (Below.heap_setCell _ _ _ _ (by simp;omega))
       have n3:∀(W:World) (u:Value),(W.setCell ⟨w2.heap.size,j,none⟩ u).cell? ⟨wo.heap.size,p2,none⟩=W.cell? ⟨wo.heap.size,p2,none⟩:=fun W u=>World.cell?_of_block (a:=⟨wo.heap.size,p2,none⟩) (Below.heap_setCell _ _ _ _ (by simp;omega))
       clear g1 g2 l1 l2 l3
       go_wp2
       go_region_held3 (fun w' => w'.cell? ⟨g,j,none⟩=some (.int .u64 (x:Int))∧w'.cell? ⟨wo.heap.size,p1,none⟩=some (.int .u64 (y:Int))∧w'.cell? ⟨wo.heap.size,p2,none⟩=some (.int .u64 (z:Int)))
        (go_keep)
        ((go_at_call 118;refine (turned_one z _ w2').mono ?_;rintro e w' ⟨rfl,nq,rfl⟩))
       all_goals
        go_wp2
        go_roundw
        case rel=>exact⟨j+1,by omega,by go_num,(HS.out _).1,(HS.out _).2⟩
        case measure=>simp[intOf];omega
      ·have hj25:j=25:=by omega
       rw[hj25] at hB
       have HT3:Hid (At wr w2.heap.size 156 25 (thetaF F)):=hB.congr (fun t ht=>upTo_full 25 _ _ t ht)
       have HG3:=hide hg
       clear hB hg hj25
       obtain⟨w3,hw3⟩:∃w3:World,w3=wr:=⟨_,rfl⟩
       subst hw3
       have hjd:decide ((j:Int)<25)=false:=by simp;omega
       have hx0:=(HT3.out.alloc (.cells (arr 25 zeroF) 156)).cell 0 (by omega)
       have hA0:At (w3.alloc (.cells (arr 25 zeroF) 156)) w3.heap.size 156 25 zeroF:=heap_alloc_new w3 _
       have hu0:=hA0.cell 0 (by omega)
       have hf0:=hA0.free 0
       have HD0:=hide (And.intro (hA0.set 0 (thetaF F 0)) (grown_set (World.grownBy_alloc w3 (.cells (arr 25 zeroF) 156) none) w3.heap.size 0 (.int .u64 ((thetaF F 0:Nat):Int)) (.inl (Nat.le_refl _))))
       have hTw:=thetaF_w hF
       generalize hTF:thetaF F=TF at *
       have HTF:=hide hTF
       clear hTF hA0
       go_wp2
       clear hjd hjl hj hx0 hu0 hf0
       go_loopw [11,12,13,14] (fun x y n i wr=>∃t:Nat,t≤24∧i=.int .i64 (t:Int)∧x=.int .i64 ((xt t:Nat):Int)∧y=.int .i64 ((yt t:Nat):Int)∧n=.int .i64 ((ns t:Nat):Int)∧At wr w3.heap.size 156 25 (rqTo TF t)∧w3.grownBy wr none) (fun _ _ _ i _=>24 - (intOf i).toNat)
       case atStart=>exact⟨0,Nat.zero_le _,rfl,rfl,rfl,rfl,by unfold At;show _=some (Obj.cells (arr 25 (updK zeroF 0 (TF 0))) 156 (0,0));rw[←arr_set];exact heap_alloc_new w3 _,World.grownBy_alloc w3 _ _⟩
       case round =>
        obtain⟨t,ht,rfl,rfl,rfl,rfl,hD,hg⟩:=hrel
        by_cases htl:t<24
        ·obtain⟨e1,e2,e3,l1,l2,l3,l4⟩:=walk_fin ⟨t,htl⟩
         simp only at e1 e2 e3 l1 l2 l3 l4
         have hx:=(HT3.out.grown hg (by simp)).cell (xt t+5 * yt t) (by omega)
         have hfz:=hD.free (yt t+5 * yt (t+1))
         obtain⟨u0,hu0⟩:∃u,wr.cell? ⟨w3.heap.size,yt t+5 * yt (t+1),none⟩=some u:=⟨_,hD.cell _ (by omega)⟩
         have HS:Hid (∀nq,At ((wr.drewN nq).setCell ⟨w3.heap.size,yt t+5 * yt (t+1),none⟩ (.int .u64 ((rot (TF (xt t+5 * yt t)) (ns (t+1) % 64):Nat):Int))) w3.heap.size 156 25 (rqTo TF (t+1))∧w3.grownBy ((wr.drewN nq).setCell ⟨w3.heap.size,yt t+5 * yt (t+1),none⟩ (.int .u64 ((rot (TF (xt t+5 * yt t)) (ns (t+1) % 64):Nat):Int))) none) :=
          fun nq=>⟨At.set (w:=wr.drewN nq) hD _ _,grown_set (grown_drewN hg nq) _ _ _ (.inl (Nat.le_refl _))⟩
         have HE1:=hide e1
         have HTw:=hTw (xt t+5 * yt t)
         clear hD hg e1
         generalize TF (xt t+5 * yt t)=v at *
         generalize hn1:ns (t+1)=n1 at *
         generalize hy1:yt (t+1)=y1 at *
         have HN1:=hide hn1
         have HY1:=hide hy1
         clear hn1 hy1
         generalize ns t=n0 at *
         generalize xt t=x at *
         generalize hyt:yt t=y at *
         have HYT:=hide hyt
         clear hyt
         have hn:(n0:Int)+(t:Int)+1=(n1:Int):=by omega
         have hzz:(2 * (x:Int)+3 * (y:Int)) % 5=(y1:Int):=by omega
         obtain⟨q,hq⟩:∃q,Hid (x+5 * y=q):=⟨_,rfl⟩
         obtain⟨d,hd⟩:∃d,Hid (y+5 * y1=d):=⟨_,rfl⟩
         rw[hq.out] at hx
         rw[hd.out] at hfz hu0 HS
         have hqq:(x:Int)+5 * (y:Int)=(q:Int):=by have:=hq.out;omega
         have hdd:(y:Int)+5 * (y1:Int)=(d:Int):=by have:=hd.out;omega
         have bq:(q:Int)<25:=by have:=hq.out;omega
         have bd:(d:Int)<25:=by have:=hd.out;omega
         have bn:(n0:Int)<1000:=by omega
         clear e2 e3
         go_wp2_with fail
         refine (turned_any v n1 _ HTw l3).mono ?_
         rintro e w' ⟨rfl,nq,rfl⟩
         go_wp2
         go_roundw
         case rel=>exact⟨t+1,by omega,by go_num,by rw[HE1.out],by rw[HY1.out],by rw[HN1.out],(HS.out _).1,(HS.out _).2⟩
         case measure=>simp[intOf];omega
        ·have ht24:t=24:=by omega
         rw[ht24] at hD
         have HD:Hid (At wr w3.heap.size 156 25 (rpTo TF 25)):=hD.congr (rq_rp hTw)
         have HG4:=hide hg
         clear hD hg ht24
         obtain⟨w4,hw4⟩:∃w4:World,w4=wr:=⟨_,rfl⟩
         subst hw4
         have htd:decide ((t:Int)<24)=false:=by simp;omega
         have hRw:=rpTo_w hTw 25
         generalize hRF:rpTo TF 25=RF at *
         have HRF:=hide hRF
         clear hRF
         go_wp2
         clear htd htl ht
         go_loopw [16] (fun i wr=>∃k:Nat,k≤25∧i=.int .i64 (k:Int)∧At wr w4.heap.size 156 25 (upTo k (chiF RF) zeroF)∧w4.grownBy wr none) (fun i _=>25 - (intOf i).toNat)
         case atStart=>exact⟨0,Nat.zero_le _,rfl,At.congr (heap_alloc_new w4 _) (fun j _=>upTo_zero _ _ j),World.grownBy_alloc w4 _ _⟩
         case round =>
          obtain⟨c,hc,rfl,hB,hg⟩:=hrel
          by_cases hcl:c<25
          ·have hC5:=HD.out.grown hg (by simp)
           have hx:=hC5.cell c hcl
           have hy:=hC5.cell (c - c % 5+(c+1) % 5) (by omega)
           have hz:=hC5.cell (c - c % 5+(c+2) % 5) (by omega)
           have hfz:=hB.free c
           obtain⟨u0,hu0⟩:∃u,wr.cell? ⟨w4.heap.size,c,none⟩=some u:=⟨_,hB.cell c hcl⟩
           have HS:Hid (∀nq,At ((wr.drewN nq).setCell ⟨w4.heap.size,c,none⟩ (.int .u64 ((chiF RF c:Nat):Int))) w4.heap.size 156 25 (upTo (c+1) (chiF RF) zeroF)∧w4.grownBy ((wr.drewN nq).setCell ⟨w4.heap.size,c,none⟩ (.int .u64 ((chiF RF c:Nat):Int))) none) :=
            fun nq=>⟨(At.set (w:=wr.drewN nq) hB c _).congr (fun t _=>upTo_succ c _ _ t),grown_set (grown_drewN hg nq) _ _ _ (.inl (Nat.le_refl _))⟩
           rw[←chiR] at HS
           clear hB hg hC5
           have wx:=hRw c
           have wy:=hRw (c - c % 5+(c+1) % 5)
           have wz:=hRw (c - c % 5+(c+2) % 5)
           obtain⟨q1,hq1⟩:∃q,Hid (c - c % 5+(c+1) % 5=q):=⟨_,rfl⟩
           obtain⟨q2,hq2⟩:∃q,Hid (c - c % 5+(c+2) % 5=q):=⟨_,rfl⟩
           rw[hq1.out] at hy HS wy
           rw[hq2.out] at hz HS wz
           generalize RF c=x at hx HS wx
           generalize RF q1=y at hy HS wy
           generalize RF q2=z at hz HS wz
           have b0:(0:Int)≤(c:Int):=by omega
           have b1:(c:Int)<25:=by omega
           obtain⟨r,hr⟩:∃r,Hid (c - c % 5=r):=⟨_,rfl⟩
           obtain⟨p1,hp1⟩:∃q,Hid ((c+1) % 5=q):=⟨_,rfl⟩
           obtain⟨p2,hp2⟩:∃q,Hid ((c+2) % 5=q):=⟨_,rfl⟩
           have hkr:=hide (show (c:Int) - (c:Int) % 5=(r:Int) from by have:=hr.out;omega)
           have r1:IntKind.i64.wrap ((c:Int)+1)=(c:Int)+1:=by rw[IntKind.wrap_i64];omega
           have r2:IntKind.i64.wrap ((c:Int)+2)=(c:Int)+2:=by rw[IntKind.wrap_i64];omega
           have r3:((c:Int)+1).tmod 5=(p1:Int):=by rw[Int.tmod_eq_emod_of_nonneg (by omega)];have:=hp1.out;omega
           have r4:((c:Int)+2).tmod 5=(p2:Int):=by rw[Int.tmod_eq_emod_of_nonneg (by omega)];have:=hp2.out;omega
           have r5:IntKind.i64.wrap ((r:Int)+(p1:Int))=(q1:Int):=by rw[IntKind.wrap_i64];have:=hq1.out;have:=hp1.out;have:=hr.out;omega
           have r6:IntKind.i64.wrap ((r:Int)+(p2:Int))=(q2:Int):=by rw[IntKind.wrap_i64];have:=hq2.out;have:=hp2.out;have:=hr.out;omega
           have b2:(0:Int)≤(q1:Int):=by omega
           have b3:(q1:Int)<25:=by have:=hq1.out;omega
           have b4:(0:Int)≤(q2:Int):=by omega
           have b5:(q2:Int)<25:=by have:=hq2.out;omega
           go_wp2
           rw[hkr.out]
           go_region
           all_goals
            go_wp2
            rw[chi_eq x y z wx wy wz]
            go_roundw
            case rel=>exact⟨c+1,by omega,by go_num,(HS.out 1).1,(HS.out 1).2⟩
            case measure=>simp[intOf];omega
          ·have hc25:c=25:=by omega
           rw[hc25] at hB
           have hB5:=hB.congr (fun t ht=>upTo_full 25 _ _ t ht)
           have hx:=hB5.cell 0 (by omega)
           have hfz:=hB5.free 0
           have hgw:w.grownBy wr none:=(((HG.out.trans HG2.out).trans HG3.out).trans HG4.out).trans hg
           have hr:=hgw.cell (HC.out k hlt) (by simp)
           have hxor:=xor_u64 (chiF RF 0) (rc k) (chiF_w hRw 0) (rc_w k)
           have HS:Hid (∀nq,At ((wr.drewN nq).setCell ⟨w4.heap.size,0,none⟩ (.int .u64 ((chiF RF 0 ^^^ rc k:Nat):Int))) w4.heap.size 156 25 (permTo f (k+1))∧w.grownBy ((wr.drewN nq).setCell ⟨w4.heap.size,0,none⟩ (.int .u64 ((chiF RF 0 ^^^ rc k:Nat):Int))) none):=by
            intro nq
            refine⟨?_,grown_set (grown_drewN hgw nq) _ _ _ (.inl (by have:=HG.out.size;have:=HG2.out.size;have:=HG3.out.size;have:=HG4.out.size;omega))⟩
            show At _ _ _ _ (roundF (permTo f k) k)
            rw[HPK.out]
            unfold roundF iotaF
            rw[HTF.out,HRF.out]
            exact At.set (w:=wr.drewN nq) hB5 0 _
           have HGE:Hid (w.heap.size≤w4.heap.size):=by show _≤_;have:=HG.out.size;have:=HG2.out.size;have:=HG3.out.size;have:=HG4.out.size;omega
           clear hB hB5 hg hgw hc25
           generalize chiF RF 0 ^^^ rc k=T at *
           generalize chiF RF 0=x at *
           generalize rc k=y at hr hxor
           have hcd:decide ((c:Int)<25)=false:=by simp;omega
           have b0:(0:Int)≤(k:Int):=by omega
           have b1:(k:Int)<24:=by omega
           go_wp2
           go_region
           all_goals
            go_wp2
            go_roundw
            case rel=>exact⟨k+1,w4.heap.size,by omega,by go_num,rfl,(HS.out 1).1,.inr HGE.out,(HS.out 1).2⟩
            case measure=>simp[intOf];omega
  ·have hk24:k=24:=by omega
   rw[hk24] at HP
   have HGG:Hid (w.heap.size≤g):=hkg.out.elim (fun h=>absurd h (by omega)) id
   clear hk24
   go_wp2
   go_ret
   exact⟨g,rfl,HP.out,HGG.out,HG.out⟩
end Go.Proofs.YthdjmldddjljfaaGreatDoor.V
