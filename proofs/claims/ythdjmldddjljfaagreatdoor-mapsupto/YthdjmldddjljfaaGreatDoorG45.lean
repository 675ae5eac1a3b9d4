/-
  OUR OWN.
-/
import Derived.Test.YthdjmldddjljfaaGreatDoorG44
set_option maxHeartbeats 8000000
set_option maxRecDepth 20000
namespace Go.Proofs.YthdjmldddjljfaaGreatDoor
open Go.RowKit
attribute [local go_sem ↓] Go.wp_at_zero Go.wp_at_succ
theorem pairUp_get:∀(X:List Int) (j:Nat),2 * j+1 < X.length→(pairUp X).getD j 0=16 * X.getD (2 * j) 0+X.getD (2 * j+1) 0
 | [],_,h=>by simp at h
 | [_],_,h=>by simp at h
 | a :: b :: r,j,h=>by
   cases j with
   | zero=>simp[pairUp]
   | succ j =>
     have ih:=pairUp_get r j (by simp at h;omega)
     rw[show 2 * (j+1)=2 * j+1+1 from by omega]
     simpa[pairUp] using ih
def nums (k:ByteArray):List Int:=k.data.toList.map fun b=>(b.toNat:Int)
theorem nums_len (k:ByteArray):(nums k).length=k.size:=by unfold nums;rw[List.length_map,Array.length_toList];rfl
theorem nums_at (k:ByteArray)(j:Nat)(hj:j<k.size):16 * (intsOf (pathN k)).getD (2 * j) 0+(intsOf (pathN k)).getD (2 * j+1) 0=(nums k).getD j 0∧0≤(nums k).getD j 0∧(nums k).getD j 0≤255:=by
 have h1:=pairUp_get (intsOf (pathN k)) j (by rw[path_len];omega)
 have h2:pairUp (intsOf (pathN k))=nums k:=pairUp_nibs _
 rw[h2] at h1
 have hl:j<(nums k).length:=by rw[nums_len];exact hj
 refine⟨h1.symm,?_⟩
 have hj2:j<k.data.toList.length:=by rw[Array.length_toList];exact hj
 have e:(nums k).getD j 0=((k.data.toList[j]).toNat:Int):=by
  rw[List.getD_eq_getElem?_getD,List.getElem?_eq_getElem hl]
  simp[nums]
 rw[e]
 have:=(k.data.toList[j]).toNat_lt
 omega
theorem path_nib (k:ByteArray)(j:Nat)(hj:j<2 * k.size):0≤(intsOf (pathN k)).getD j 0∧(intsOf (pathN k)).getD j 0≤15:=by
 have h2:j<(pathN k).length:=by rw[pathN_length];exact hj
 have e:(intsOf (pathN k)).getD j 0=((pathN k)[j]:Int):=by simp[intsOf,List.getD_eq_getElem?_getD,h2]
 have:=pathN_lt k _ (List.getElem_mem h2)
 rw[e];omega
theorem infoU8:(Tryz.prog.info? 5).map (fun i=>(i.zero,i.size,i.bytes))=some (some (.int .u8 0),1,1):=by kernel_rfl
theorem rKey_any (k:ByteArray)(pa:Option Addr)(pc:Nat)(w:World)(hp:V.PSl w pa pc (intsOf (pathN k)))(hk:k.size≤1000) :
  Calls Tryz.prog 76 #[.slice pa (intsOf (pathN k)).length pc] w fun e w' => e=.returned (.string k)∧Below w.heap.size w w' := by
 obtain⟨i0,hi0,hz0,hz1,hz2⟩:=info_parts infoU8
 have HL:=hide (path_len k)
 have HP:=hide hp
 have HNu:=hide (fun j hj=>nums_at k j hj)
 have HNb:=hide (fun j hj=>path_nib k j hj)
 have HSt:=hide (str_bytes k)
 have HNl:=hide (nums_len k)
 rw[path_len k]
 generalize hX:intsOf (pathN k)=X at *
 clear hX
 clear hp
 obtain⟨LN,hLN⟩:∃LN,2 * k.size=LN:=⟨_,rfl⟩
 rw[hLN] at HL ⊢
 have HLN:=hide hLN
 go_enter Tryz.func76,Tryz.ntmps76
 go_wp2_with fail
 go_loopw [3,4] (fun bv iv wr=>∃j m:Nat,j≤k.size∧m=2 * j∧iv=.int .i64 (m:Int)∧wr.ownsRow w.heap.size 5 1 bv j (((nums k).take j).map (Value.int .u8))∧Below w.heap.size w wr) (fun _ iv _=>LN - (intOf iv).toNat)
 case atStart=>exact⟨0,0,by omega,rfl,rfl,World.ownsRow_nil _ _ _ _,Below.refl _ _⟩
 case round =>
  obtain⟨j,m,hj,hm,rfl,hown,hbw⟩:=hrel
  have HO:=hide hown
  have HB:=hide hbw
  have j0:(0:Int)≤(m:Int):=by omega
  by_cases hjl:j<k.size
  ·have j2:(m:Int)<(LN:Int):=by omega
   obtain⟨m1,hm1⟩:∃m1,m+1=m1:=⟨_,rfl⟩
   have j3:IntKind.i64.wrap ((m:Int)+1)=(m1:Int):=by rw[IntKind.wrap_i64];omega
   have j4:(m1:Int)<(LN:Int):=by omega
   have j5:(0:Int)≤(m1:Int):=by omega
   obtain⟨g,o,rfl,hc⟩:=(HP.out.keep (V.KpI.of_below hbw)).cellAt (by rw[HL.out];omega)
   have c0:=hc (2 * j) (by rw[HL.out];omega)
   have c1:=hc (2 * j+1) (by rw[HL.out];omega)
   obtain⟨b1,b2,b3⟩:=HNu.out j hjl
   obtain⟨n1,n2⟩:=HNb.out (2 * j) (by omega)
   obtain⟨n3,n4⟩:=HNb.out (2 * j+1) (by omega)
   have HTk:Hid (((nums k).take (j+1)).map (Value.int .u8)=((nums k).take j).map (Value.int .u8)++[.int .u8 ((nums k).getD j 0)]):=by
    show _=_
    have hjn:j<(nums k).length:=by rw[HNl.out];exact hjl
    rw[List.take_succ_eq_append_getElem hjn,List.map_append,List.getD_eq_getElem?_getD,List.getElem?_eq_getElem hjn];rfl
   rw[←hm] at c0 c1 b1 n1 n2 n3 n4
   rw[hm1] at c1 b1 n3 n4
   generalize (nums k).getD j 0=bb at *
   generalize X.getD m 0=xa at *
   generalize X.getD m1 0=xb at *
   have HBb:=hide b1
   have k2:IntKind.i64.wrap (16 * xa)=16 * xa:=by rw[IntKind.wrap_i64];omega
   have k3:IntKind.i64.wrap (16 * xa+xb)=16 * xa+xb:=by rw[IntKind.wrap_i64];omega
   have k4:IntKind.u8.wrap (16 * xa+xb)=16 * xa+xb:=by rw[IntKind.wrap_u8];omega
   have HNE:Hid (some g≠u3.ownBlock):=fun e=>by
    have:=own_ge hown (Nat.le_refl _) g e.symm
    have h1:=(HP.out.cellAt (by rw[HL.out];omega))
    obtain⟨g', o', e', hc'⟩:=h1
    obtain⟨rfl,rfl⟩:g=g' ∧ o=o' := by simpa using e'
    have:=World.block_lt_of_cell? w _ (hc' m (by rw[HL.out];omega))
    simp at this
    omega
   have HM:=hide hm
   have hgl:g<wr.heap.size:=World.block_lt_of_cell? wr _ c0
   have HGl:=hide hgl
   clear hc hown hbw hm hgl b1 b2 b3 hLN hm1
   go_wp2_with fail
   go_region_held3 (fun w' => w'.cell? ⟨g,o+m,none⟩=some (.int .i64 xa)∧w'.cell? ⟨g,o+m1,none⟩=some (.int .i64 xb))
    (first
      | go_keep
      | (go_split_ands
         refine⟨?_,?_⟩<;>(rw[hgrow.cell_far _ (by have:=HGl.out;simp;omega) HNE.out];assumption)))
    ((refine step_append_lies _ (by rfl) _ _ _ (by rfl) w.heap.size 5 i0 _ 1 1 Tryz.underlying144 hi0 hz0 hz1 hz2 rfl (by omega) u3 j _ (by rfl) ((HO.out.alloc _).drew)
       ⟨wr.heap.size,0,none⟩ 1 1 [.int .u8 (16 * xa+xb)] (by rfl) (by rfl) (World.news_of_block (cs:=#[.int .u8 (16 * xa+xb)]) (t:=5) (fr:=(0,0)) (heap_alloc_new wr _)) (by simp[Value.oneCell'])
       (by omega) (by unfold maxLen;omega) (by omega) (by have:=HB.out.size;simp;omega) (wr.heap.size+1) (by simp) ?_;intro gg cap2 w3 hown3 hgrow hat3 hlt3))
   all_goals
    have HO3:Hid (w3.ownsRow w.heap.size 5 1 (.slice (some ⟨gg,0,none⟩) (j+1) cap2) (j+1) (((nums k).take (j+1)).map (Value.int .u8))):=by
     show World.ownsRow _ _ _ _ _ _ _
     rw[HTk.out,←HBb.out]
     exact hown3
    have HB3:Hid (Below w.heap.size w w3):=((HB.out.alloc HB.out.size _).drew).grown hgrow (by have:=HB.out.size;simp;omega) (own_ge HO.out (Nat.le_refl _))
    clear hown3 hgrow hat3 hlt3
    have j6:IntKind.i64.wrap ((m:Int)+2)=((m+2:Nat):Int):=by rw[IntKind.wrap_i64];have:=HM.out;omega
    go_wp2
    go_roundw
    case rel=>exact⟨j+1,m+2,by omega,by have:=HM.out;omega,by have:=HM.out;go_num,HO3.out,HB3.out⟩
    case measure=>have:=HM.out;have:=HLN.out;simp[intOf];omega
  ·obtain rfl:j=k.size:=by omega
   have hE:(m:Int)+1 > (LN:Int):=by omega
   have j3:IntKind.i64.wrap ((m:Int)+1)=((m+1:Nat):Int):=by rw[IntKind.wrap_i64];omega
   obtain⟨M1,hM1⟩:∃M1,m+1=M1:=⟨_,rfl⟩
   rw[hM1] at j3
   have j4:¬(M1:Int)<(LN:Int):=by omega
   have htk:((nums k).take k.size)=nums k:=List.take_of_length_le (by rw[HNl.out];omega)
   rw[htk] at hown
   have hcv:∃a,u3=a∧(convert 144 9 a).run Tryz.prog wr=.ok (.string k) wr:=by
    refine⟨_,rfl,?_⟩
    rcases hown.2 with⟨rfl,h0⟩|⟨g,c,cur,rfl,h2,h3,_⟩
    ·have hk0:k=⟨#[]⟩:=ByteArray.ext (Array.eq_empty_of_size_eq_zero h0)
     rw[hk0]
     rw[run_convert_bytes_string wr 144 9 5 none 0 0 Tryz.underlying144 Tryz.underlying5 Tryz.underlying9]
     simp[Conv.bytesToString]
     rfl
    ·have h:=run_convert_bytes_arg (P:=Tryz.prog) wr 144 5 Tryz.underlying144 Tryz.underlying5 g 0 k.size c (nums k) HNl.out (fun i hi=>by
      have hi2:i<(nums k).length:=by rw[HNl.out];exact hi
      have hc:=hown.cells (g:=g) rfl i (.int .u8 ((nums k).getD i 0)) (by
       rw[List.getElem?_map,List.getElem?_eq_getElem hi2,List.getD_eq_getElem?_getD,List.getElem?_eq_getElem hi2];rfl)
      rw[addr_add] at hc
      exact hc) 9 Tryz.underlying9
     rw[show strOfNums (nums k)=k from HSt.out] at h
     exact h
   obtain⟨a3,rfl,hcv⟩:=hcv
   clear hown hbw hE hm hM1 hLN htk hjl hj
   go_wp2
   go_ret
   exact⟨rfl,HB.out⟩
theorem infoPrs:(Tryz.prog.info? 27).map (fun i=>(i.zero,i.size,i.bytes))=some (some (.slice none 0 0),1,24):=by kernel_rfl
theorem mark2_news (w:World)(m:ByteArray):∀j u,[Value.string m,Value.string ⟨#[]⟩][j]? = some u→(w.alloc (.cells #[.string m,.string ⟨#[]⟩] 33)).cell? ((⟨w.heap.size,0,none⟩:Addr).add j)=some u :=
 World.news_of_block (cs:=#[.string m,.string ⟨#[]⟩]) (t:=33) (fr:=(0,0)) (heap_alloc_new w _)
theorem four_news (w:World)(t:TypeId)(a b c d:Value):∀j u,[a,b,c,d][j]? = some u→(w.alloc (.cells #[a,b,c,d] t)).cell? ((⟨w.heap.size,0,none⟩:Addr).add j)=some u :=
 World.news_of_block (cs:=#[a,b,c,d]) (t:=t) (fr:=(0,0)) (heap_alloc_new w _)
theorem mark2_cells {w:World}{X:Nat}{m:ByteArray}{t:TypeId}(h:w.heap[X]? = some (.cells #[.string m,.string ⟨#[]⟩] t (0,0))):w.cell? ⟨X,0,none⟩=some (.string m)∧w.cell? ⟨X,1,none⟩=some (.string ⟨#[]⟩):=⟨cell_of_blk h 0,cell_of_blk h 1⟩
theorem ListPost.below {lo te tr tb ci:Nat}{w0 w w' : World}{B:Nat}{cs:Array Value}{L lv:Value}{N n:Nat}{rows:List Value}{m:ByteArray}(hb:Below w0.heap.size w0 w)(P:ListPost lo te tr tb ci w w' B cs L N rows lv n m):ListPost lo te tr tb ci w0 w' B cs L N rows lv n m:=by
 obtain⟨L', x,y,z,h1,h2,h3,h4,h5,h6,h7,h8⟩:=P.ends
 have hs:=hb.size
 refine⟨⟨L', x,y,z,h1,h2,h3,h4,h5,h6,fun k e=>(h7 k e).imp id (fun h=>by omega),fun u hu k e=>(h8 u hu k e).imp id (fun h=>by omega)⟩,(Ex.of_below hb).trans P.ex⟩
set_option maxRecDepth 100000 in
theorem pairs_any (lo:Nat)(L:Value)(B:Nat)(cs:Array Value)(N q:Nat)(rows:List Value)(lv:Value)(n:Nat)(xs:List Value)(w:World)
  (hB:w.heap[B]? = some (.cells cs 55 (0,0))) (hc3:cs[3]? = some L) (h2:w.ownsRow lo 27 1 L N rows) (hq:(N:Int) / 4=(q:Int)) (hN:N≤10000000)
  (hl:w.ownsRow lo 33 2 lv n xs) (hn:n≤1000000) (hlo:lo≤w.heap.size) :
  Calls Tryz.prog 39 #[.pointer (some ⟨B,0,none⟩),lv] w fun e w' => e=.returned (.tuple #[])∧ListPost lo 33 27 55 3 w w' B cs L N rows lv n (markS q):=by
 obtain⟨i0,hi,hz0,hz1,hz2⟩:=info_parts infoPr
 obtain⟨j0,hj,hy0,hy1,hy2⟩:=info_parts infoPrs
 obtain⟨la,lc,rfl⟩:=ownsRow_slice hl
 obtain⟨ao,c2,rfl⟩:=ownsRow_slice h2
 have hq1:q≤10000000:=by omega
 have hBl:(Value.slice la n lc).ownBlock≠some B:=fun e=>by
  obtain⟨_,cur,hc⟩:=ownsRow_type hl B e
  rw[hB] at hc
  injection hc with hc
  injection hc with _ hc _
  exact absurd hc (by decide)
 have hB2:(Value.slice ao N c2).ownBlock≠some B:=fun e=>by
  obtain⟨_,cur,hc⟩:=ownsRow_type h2 B e
  rw[hB] at hc
  injection hc with hc
  injection hc with _ hc _
  exact absurd hc (by decide)
 have h2l:∀k,(Value.slice ao N c2).ownBlock=some k→(Value.slice la n lc).ownBlock≠some k:=fun k e e2=>by
  obtain⟨_,cur,hc⟩:=ownsRow_type h2 k e
  obtain⟨_,cur', hc'⟩:=ownsRow_type hl k e2
  rw[hc] at hc'
  injection hc' with hc'
  injection hc' with _ hc' _
  exact absurd hc' (by decide)
 have hBs:B<w.heap.size:=(aGe.1 hB).1
 have hcB:w.cell? ⟨B,3,none⟩=some (.slice ao N c2):=by rw[cell_of_blk hB];exact hc3
 have HMk:=hide (fun W=>mark_any q W (by omega))
 have HK:Hid (∀W,Below w.heap.size w W→W.ownsRow lo 27 1 (.slice ao N c2) N rows∧W.ownsRow lo 33 2 (.slice la n lc) n xs∧W.heap[B]? = some (.cells cs 55 (0,0))):=fun W hW =>
  ⟨own_far h2 (fun g _ hg=>hW.block g hg),own_far hl (fun g _ hg=>hW.block g hg),(hW.block B hBs).trans hB⟩
 have HBl:=hide hBl
 have HB2:=hide hB2
 have H2l:=hide h2l
 have HC3:=hide hc3
 have HLo:=hide hlo
 have hgX:∀k,(Value.slice la n lc).ownBlock=some k→k<w.heap.size:=fun k e=>(hl.lt k e).2
 have HgX:=hide hgX
 have HXl:Hid (xs.length=n*2):=hl.1
 clear h2 hl hB hBl hB2 h2l hc3 hgX hlo
 go_enter Tryz.func39,Tryz.ntmps39
 go_wp2_with fail
 refine (HMk.out _).mono ?_
 rintro e w1 ⟨rfl,hb1⟩
 obtain⟨m,hm⟩:∃m,markS q=m:=⟨_,rfl⟩
 rw[hm]
 have HMm:=hide hm
 clear hm
 have HBe:Hid (Below w.heap.size w (w1.alloc (.cells #[.string m,.string ⟨#[]⟩] 33))):=hb1.alloc hb1.size _
 have HM:Hid ((w1.alloc (.cells #[.string m,.string ⟨#[]⟩] 33)).heap[w1.heap.size]? = some (.cells #[.string m,.string ⟨#[]⟩] 33 (0,0))):=heap_alloc_new w1 _
 have HXw:Hid (w.heap.size≤w1.heap.size):=hb1.size
 clear hb1 HMk hcB
 go_wp2_with fail
 generalize (w1.alloc (.cells #[.string m,.string ⟨#[]⟩] 33))=W0 at *
 generalize w1.heap.size=X at *
 have HMs:Hid (X<W0.heap.size):=(aGe.1 HM.out).1
 obtain⟨h2', hl', hB'⟩:=HK.out W0 HBe.out
 have H2:=hide h2'
 have HL:=hide hl'
 have HB:=hide hB'
 clear h2' hl' hB'
 have hgM:(Value.slice la n lc).ownBlock≠some X:=fun e=>by have:=HgX.out _ e;have:=HXw.out;omega
 go_loopw [5] (fun i wr=>∃k:Nat,k≤n∧i=.int .i64 (k:Int)∧wr.ownsRow lo 33 2 (.slice la n lc) n (rep2 k m++xs.drop (k*2))∧W0.grownBy wr (Value.slice la n lc).ownBlock) (fun i _=>n - (intOf i).toNat)
 case atStart=>exact⟨0,Nat.zero_le _,rfl,by simpa[rep2] using HL.out,World.grownBy.refl _ _⟩
 case round =>
  obtain⟨k,hk,rfl,hown,hgr⟩:=hrel
  have hMr:wr.heap[X]? = some (.cells #[.string m,.string ⟨#[]⟩] 33 (0,0)):=by
   rw[hgr.block X HMs.out (fun e=>hgM e.symm)];exact HM.out
  obtain⟨m0,m1⟩:=mark2_cells hMr
  have HMr:=hide hMr
  clear hMr
  by_cases hlt:k<n
  ·obtain⟨g,rfl⟩:∃g,la=some ⟨g,0,none⟩:=by
    rcases hown.2 with⟨h,h0⟩|⟨g,c,cur,h,_⟩
    ·omega
    ·injection h with h _ _;exact⟨g,h⟩
   have hst:=hown.stored (k*2) (.string m)
   have hst1:=hst.1.stored (k*2+1) (.string ⟨#[]⟩)
   rw[rep2_step n k xs m HXl.out hlt] at hst1
   have HS:=hide (And.intro hst1.1 ((hgr.trans hst.2).trans hst1.2))
   have hln:(rep2 k m++xs.drop (k*2)).length=n*2:=hown.1
   have cellX:∀j,j<n*2→∃u,wr.cell? ⟨g,j,none⟩=some u:=fun j hj=>by
    rw[hown.cellAt j hj]
    exact⟨_,List.getElem?_eq_getElem (by omega)⟩
   obtain⟨u0,hu0⟩:=cellX (k*2) (by omega)
   obtain⟨u1,hu1⟩:=cellX (k*2+1) (by omega)
   have hf0:=hown.frozenAt (k*2)
   have hf1:=hown.frozenAt (k*2+1)
   clear hst hst1 hown hgr hln cellX hgM
   go_wp2
   go_roundw
   case rel=>exact⟨k+1,by omega,by go_num,HS.out.1,HS.out.2⟩
   case measure=>simp[intOf];omega
  ·have hke:k=n:=by omega
   rw[hke,List.drop_eq_nil_of_le (by rw[HXl.out];exact Nat.le_refl _),List.append_nil] at hown
   have HOW:=hide hown
   have HGR:=hide hgr
   have hMl:X<wr.heap.size:=by have:=HMs.out;have:=hgr.size;omega
   have HLow:Hid (lo≤wr.heap.size):=by show _≤_;have:=HLo.out;have:=HBe.out.size;have:=hgr.size;omega
   clear hown hgr hke HL
   have tok1:True:=trivial
   have tok2:True:=trivial
   have tok3:True:=trivial
   go_wp2_with (first
    | (at_builtin;have _t:=tok1;go_must (refine wpList_append_keeps _ rfl (.tmp 27) (.tmp 29) 27 rfl lo 33 i0 _ 2 32 Tryz.underlying27 hi hz0 hz1 hz2 rfl (by decide) (.slice la n lc) n _ rfl (HOW.out.alloc _) ⟨wr.heap.size,0,none⟩ 1 1 [.string m,.string ⟨#[]⟩] rfl rfl (mark2_news wr _) (by simp[Value.oneCell']) (by omega) (by unfold maxLen;omega) (by omega) (by have:=HLow.out;simp;omega) ?_);intro g1 c1 w1' O1 K1 G1 A1 T1;go_must (have F1:=hide (And.intro O1 (And.intro K1 (And.intro G1 (And.intro A1 T1)))));clear tok1 O1 K1 G1 A1 T1;go_must (have S1:=hide F1.out.1;rw[rep2_snoc] at S1);go_must (have Ne1:=hide (ne_row F1.out.2.2.2.1 hgM (by have:=hMl;simp;omega)));go_must (have HM1:=hide (blk4 HMr.out F1.out.2.2.1 hgM));have q1:=mark2_cells HM1.out;have q1a:=q1.1;have q1b:=q1.2;clear q1;have hMl1:=(aGe.1 HM1.out).1;have HLow1:Hid (lo≤w1'.heap.size):=(by show _≤_;have:=HLow.out;have:=F1.out.2.2.1.size;simp at this;omega))
    | (at_builtin;have _t:=tok2;go_must (refine wpList_append_keeps _ rfl (.tmp 31) (.tmp 33) 27 rfl lo 33 i0 _ 2 32 Tryz.underlying27 hi hz0 hz1 hz2 rfl (by decide) (.slice (some ⟨g1,0,none⟩) (n+1) c1) (n+1) _ rfl (S1.out.alloc _) ⟨w1'.heap.size,0,none⟩ 1 1 [.string m,.string ⟨#[]⟩] rfl rfl (mark2_news w1' _) (by simp[Value.oneCell']) (by omega) (by unfold maxLen;omega) (by omega) (by have:=HLow1.out;simp;omega) ?_);intro g2 c3 w2 O1 K1 G1 A1 T1;go_must (have F2:=hide (And.intro O1 (And.intro K1 (And.intro G1 (And.intro A1 T1)))));clear tok2 O1 K1 G1 A1 T1;go_must (have S2:=hide F2.out.1;rw[rep2_snoc] at S2);go_must (have Ne2:=hide (ne_row F2.out.2.2.2.1 Ne1.out (by simp;omega)));go_must (have HM2:=hide (blk4 HM1.out F2.out.2.2.1 Ne1.out));have q2:=mark2_cells HM2.out;have q2a:=q2.1;have q2b:=q2.2;clear q2;have hMl2:=(aGe.1 HM2.out).1;have HLow2:Hid (lo≤w2.heap.size):=(by show _≤_;have:=HLow1.out;have:=F2.out.2.2.1.size;simp at this;omega))
    | (at_builtin;have _t:=tok3;go_must (refine wpList_append_keeps _ rfl (.tmp 35) (.tmp 37) 27 rfl lo 33 i0 _ 2 32 Tryz.underlying27 hi hz0 hz1 hz2 rfl (by decide) (.slice (some ⟨g2,0,none⟩) (n+2) c3) (n+2) _ rfl (S2.out.alloc _) ⟨w2.heap.size,0,none⟩ 1 1 [.string m,.string ⟨#[]⟩] rfl rfl (mark2_news w2 _) (by simp[Value.oneCell']) (by omega) (by unfold maxLen;omega) (by omega) (by have:=HLow2.out;simp;omega) ?_);intro g3 c4 w3 O1 K1 G1 A1 T1;go_must (have F3:=hide (And.intro O1 (And.intro K1 (And.intro G1 (And.intro A1 T1)))));clear tok3 O1 K1 G1 A1 T1;go_must (have T:=hide (three2 (g1:=g1) (g2:=g2) (g3:=g3) HGR.out F1.out.1 F1.out.2.1 F1.out.2.2.1 (by simpa using F1.out.2.2.2.1) F2.out.1 (by have:=F2.out.2.1;simpa[rep2_snoc] using this) F2.out.2.2.1 (by simpa[Value.ownBlock] using F2.out.2.2.2.1) F3.out.1 (by have:=F3.out.2.1;simpa[rep2_snoc] using this) F3.out.2.2.1 (by simpa[Value.ownBlock] using F3.out.2.2.2.1)));go_must (have HB3:=hide (T.out.cellB HB.out HBl.out));go_must (have hcB3:w3.cell? ⟨B,3,none⟩=some (.slice ao N c2):=by rw[cell_of_blk HB3.out];exact HC3.out);have HLow3:Hid (lo≤w3.heap.size):=(by show _≤_;have:=HLow2.out;have:=F3.out.2.2.1.size;simp at this;omega))
    | (at_builtin;go_must (refine wpList_append_keeps _ rfl (.tmp 43) (.tmp 48) 45 rfl lo 27 j0 (.slice none 0 0) 1 24 Tryz.underlying45 hj hy0 hy1 hy2 rfl (by decide) (.slice ao N c2) N rows rfl ((T.out.own2 H2l.out H2.out).alloc _) ⟨w3.heap.size,0,none⟩ 4 4 [.slice la n lc,.slice (some ⟨g1,0,none⟩) (n+1) c1,.slice (some ⟨g2,0,none⟩) (n+2) c3,.slice (some ⟨g3,0,none⟩) (n+3) c4] rfl rfl (four_news w3 27 _ _ _ _) (by simp[Value.oneCell']) (by omega) (by unfold maxLen;omega) (by omega) (by have:=HLow3.out;simp;omega) ?_);intro g4 c5 w4 O4 K4 G4 A4 T4;go_must (have F4:=hide (And.intro O4 (And.intro G4 A4)));go_must (have HB4:=hide (blk4 HB3.out G4 HB2.out));clear O4 K4 G4 A4 T4;go_must (have hcB4:w4.cell? ⟨B,3,none⟩=some (.slice ao N c2):=by rw[cell_of_blk HB4.out];exact HC3.out);go_must (have hfB4:=frozen_of_blk HB4.out 3)))
   go_end0
   refine⟨rfl,?_⟩
   have PP:=listPost_mk (ci:=3) T.out H2l.out HB.out ⟨by decide,by decide⟩ HBl.out HB2.out H2.out F4.out.1 F4.out.2.1 (by
    intro k hk
    obtain rfl:g4=k:=by simpa[Value.ownBlock] using hk
    simpa using F4.out.2.2)
   rw[HMm.out]
   exact PP.below HBe.out
structure Rows2 (te tr:TypeId)(c lo:Nat)(w:World)(L:Value)(rows:List (Value×Nat)):Prop where
 own:w.ownsRow lo tr 1 L rows.length (rows.map Prod.fst)
 marks:∀i (h:i<rows.length),Mk2 te w rows[i].1 rows[i].2 (markS (i / c))
 short:∀r∈rows,r.2≤3000000
theorem Rows2.nil (te tr:TypeId)(c lo:Nat)(w:World):Rows2 te tr c lo w (.slice none 0 0) []:=⟨World.ownsRow_nil _ _ _ _,fun i h=>by simp at h,fun r h=>by simp at h⟩
theorem Rows2.far {te tr c lo:Nat}{w w' : World}{L:Value}{rows:List (Value×Nat)}(h:Rows2 te tr c lo w L rows)(hs:∀(g:Nat) (cur:Array Value) (t:TypeId),(t=te∨t=tr)→w.heap[g]? = some (.cells cur t (0,0))→w'.heap[g]? = w.heap[g]?):Rows2 te tr c lo w' L rows :=
 ⟨own_far h.own (fun g hg _=>by
  obtain⟨_,cur,hc⟩:=ownsRow_type h.own g hg
  exact hs g cur tr (.inr rfl) hc),fun i hi=>(h.marks i hi).far (fun g cur _ hc=>hs g cur te (.inl rfl) hc),h.short⟩
theorem Rows2.keep {te tr c lo:Nat}{w w' : World}{L:Value}{rows:List (Value×Nat)}(h:Rows2 te tr c lo w L rows)(hb:Below w.heap.size w w'):Rows2 te tr c lo w' L rows :=
 h.far (fun g _ _ _ hc=>hb.block g (aGe.1 hc).1)
theorem Rows2.at' {te tr c lo:Nat}{w:World}{L:Value}{rows:List (Value×Nat)}(h:Rows2 te tr c lo w L rows){i:Nat}(hi:i<rows.length):∃q lc a k b,L=.slice (some ⟨q,0,none⟩) rows.length lc∧w.cell? ⟨q,i,none⟩=some (.slice a k b)∧k≤3000000∧∀j,j<k→∃g,a=some ⟨g,0,none⟩∧w.cell? ⟨g,j*2,none⟩=some (.string (markS (i / c)))∧w.cell? ⟨g,j*2+1,none⟩=some (.string ⟨#[]⟩):=by
 rcases h.own.2 with⟨_,h1⟩|⟨q,lc,cur,h1,_⟩
 ·omega
 ·have hc:=h.own.cells (g:=q) (by rw[h1];rfl) i rows[i].1 (by simp[hi])
  rw[addr_add,Nat.zero_add] at hc
  have hsh:=h.short rows[i] (List.getElem_mem hi)
  rcases h.marks i hi with⟨e,e2⟩|⟨g,b,e,_,hcell⟩
  ·refine⟨q,lc,none,0,0,h1,?_,by omega,fun j hj=>by omega⟩
   rw[hc,e]
  ·refine⟨q,lc,some ⟨g,0,none⟩,rows[i].2,b,h1,?_,hsh,fun j hj=>?_⟩
   ·rw[hc,e]
   ·obtain⟨e1,e2⟩:=rep2_get (markS (i / c)) rows[i].2 j hj
    exact⟨g,rfl,hcell _ _ e1,hcell _ _ e2⟩
theorem Rows2.slice {te tr c lo:Nat}{w:World}{L:Value}{rows:List (Value×Nat)}(h:Rows2 te tr c lo w L rows):∃va vc,L=.slice va rows.length vc:=ownsRow_slice h.own
theorem entriesRead_any (lo:Nat)(va:Option Addr)(vc:Nat)(rows:List (Value×Nat))(w:World)(h:Rows2 125 22 1 lo w (.slice va rows.length vc) rows)(hm:rows.length≤10000000) :
  Calls Tryz.prog 32 #[.slice va rows.length vc,.int .i64 1] w fun e w' => e=.returned (.bool true)∧Below w.heap.size w w' := by
 have HD:=hide h
 clear h
 obtain⟨m,hmm⟩:∃m,rows.length=m:=⟨_,rfl⟩
 have HMM:=hide hmm
 rw[hmm] at hm ⊢
 clear hmm
 go_enter Tryz.func32,Tryz.ntmps32
 go_wp2_with fail
 go_loopw [5] (fun iv wr=>∃i:Nat,i≤m∧iv=.int .i64 (i:Int)∧Below w.heap.size w wr) (fun iv _=>m - (intOf iv).toNat)
 case atStart=>exact⟨0,by omega,rfl,Below.refl _ _⟩
 case round =>
  obtain⟨i,him,rfl,hbw⟩:=hrel
  have HB:=hide hbw
  clear hbw
  have j0:(0:Int)≤(i:Int):=by omega
  by_cases hil:i<m
  ·have j1:(i:Int)<(m:Int):=by omega
   have HA:Hid (∀W,Below w.heap.size w W→∃q lc a k b,Value.slice va m vc=.slice (some ⟨q,0,none⟩) m lc∧W.cell? ⟨q,i,none⟩=some (.slice a k b)∧k≤3000000∧∀j,j<k→∃g,a=some ⟨g,0,none⟩∧W.cell? ⟨g,j*2,none⟩=some (.string (markS i))∧W.cell? ⟨g,j*2+1,none⟩=some (.string ⟨#[]⟩)):=fun W hW=>by
    have h:=(HD.out.keep hW).at' (i:=i) (by rw[HMM.out];exact hil)
    rw[HMM.out,Nat.div_one] at h
    exact h
   obtain⟨q,lc,a,k,b,e,hq,hk,_⟩:=HA.out w (Below.refl _ _)
   obtain⟨rfl,rfl⟩:va=some ⟨q,0,none⟩∧vc=lc:=by simpa using e
   have HK:Hid (∀W,Below w.heap.size w W→W.cell? ⟨q,i,none⟩=some (.slice a k b)∧∀j,j<k→∃g,a=some ⟨g,0,none⟩∧W.cell? ⟨g,j*2,none⟩=some (.string (markS i))∧W.cell? ⟨g,j*2+1,none⟩=some (.string ⟨#[]⟩)):=fun W hW=>by
    obtain⟨q', lc', a', k', b', e', hq', _,h4⟩:=HA.out W hW
    obtain⟨rfl,rfl⟩:q=q' ∧ vc=lc' := by simpa using e'
    have hq2:=(hW.cell (p:=⟨q,i,none⟩) (World.block_lt_of_cell? w _ hq)).trans hq
    rw[hq'] at hq2
    obtain⟨rfl,rfl,rfl⟩:a' = a∧k' = k∧b' = b:=by simpa using hq2
    exact⟨hq', h4⟩
   clear hq e HA
   have HM:=hide (fun W=>mark_any i W (by omega))
   go_wp2_with fail
   refine (HM.out _).mono ?_
   rintro e w1 ⟨rfl,hb1⟩
   have HB1:Hid (Below w.heap.size w w1):=HB.out.trans (hb1.mono HB.out.size)
   clear hb1
   obtain⟨M,hM⟩:∃M,markS i=M:=⟨_,rfl⟩
   rw[hM] at HK ⊢
   clear hM HM
   have HN:Hid ((w1.alloc (.cells #[.string M,.string ⟨#[]⟩] 125)).heap[w1.heap.size]? = some (.cells #[.string M,.string ⟨#[]⟩] 125 (0,0))):=heap_alloc_new _ _
   have HB2:Hid (Below w.heap.size w (w1.alloc (.cells #[.string M,.string ⟨#[]⟩] 125))):=HB1.out.alloc HB1.out.size _
   go_wp2_with fail
   generalize (w1.alloc (.cells #[.string M,.string ⟨#[]⟩] 125))=W2 at *
   generalize w1.heap.size=X at *
   clear HB HB1
   go_loopw [7] (fun kv W=>∃j:Nat,j≤k∧kv=.int .i64 (j:Int)∧Below W2.heap.size W2 W) (fun kv _=>k - (intOf kv).toNat)
   case atStart=>exact⟨0,by omega,rfl,Below.refl _ _⟩
   case round =>
    obtain⟨j,hj3,rfl,hbk⟩:=hrel
    have HBK:=hide hbk
    have HBW:Hid (Below w.heap.size w wr):=HB2.out.trans (hbk.mono HB2.out.size)
    obtain⟨y1,hrow⟩:=HK.out wr HBW.out
    have hbox:wr.heap[X]? = some (.cells #[.string M,.string ⟨#[]⟩] 125 (0,0)):=(hbk.block X (aGe.1 HN.out).1).trans HN.out
    have b1:wr.cell? ⟨X,0,none⟩=some (.string M):=cell_of_row _ _ 0 _ _ (0,0) hbox
    have b2:wr.cell? ⟨X,1,none⟩=some (.string ⟨#[]⟩):=cell_of_row _ _ 1 _ _ (0,0) hbox
    have k0:(0:Int)≤(j:Int):=by omega
    clear hbk hbox
    by_cases h3:j<k
    ·have k1:(j:Int)<(k:Int):=by omega
     obtain⟨g,rfl,c1,c2⟩:=hrow j h3
     clear hrow
     go_wp2_with fail
     go_region
     all_goals
      go_wp2
      go_roundw
      case rel=>exact⟨j+1,by omega,by go_num,HBK.out.drew⟩
      case measure=>simp[intOf];omega
    ·obtain rfl:j=k:=by omega
     clear hrow
     go_wp2
     go_roundw
     case rel=>exact⟨i+1,by omega,by go_num,HBW.out⟩
     case measure=>simp[intOf];omega
  ·obtain rfl:i=m:=by omega
   go_wp2
   go_ret
   exact⟨rfl,HB.out⟩
theorem looks2_any (b lo:Nat)(v4 v6:Value)(r4 r6:List (Value×Nat))(w:World)(h:∀i,i<3→w.cell? ⟨b,i,none⟩=some (.slice none 0 0))(h4:w.cell? ⟨b,4,none⟩=some (.slice none 0 0))(h3:w.cell? ⟨b,3,none⟩=some v4)(h5:w.cell? ⟨b,5,none⟩=some v6)(hr4:Rows2 33 27 4 lo w v4 r4)(hr6:Rows2 125 22 1 lo w v6 r6)(hm4:r4.length≤10000000)(hm:r6.length≤10000000) :
  Calls Tryz.prog 15 #[.pointer (some ⟨b,0,none⟩)] w fun e w' => e=.returned (.bool true)∧Below w.heap.size w w' := by
 have x0:=h 0 (by omega)
 have x1:=h 1 (by omega)
 have x2:=h 2 (by omega)
 obtain⟨va,vc,rfl⟩:=hr6.slice
 obtain⟨pa,pc,rfl⟩:=hr4.slice
 have HS:=hide (small_nil b w x0 x1)
 have HN:=hide (fun W=>entriesRead_nil 4 W)
 have HE:=hide (entriesRead_any lo va vc r6 w hr6 hm)
 have HD:=hide hr4
 have hlt:b<w.heap.size:=World.block_lt_of_cell? w _ x0
 have HX:Hid (∀W,Below w.heap.size w W→W.cell? ⟨b,2,none⟩=some (.slice none 0 0)∧W.cell? ⟨b,3,none⟩=some (.slice pa r4.length pc)):=fun W hW=>⟨(hW.cell (p:=⟨b,2,none⟩) hlt).trans x2,(hW.cell (p:=⟨b,3,none⟩) hlt).trans h3⟩
 obtain⟨m,hmm⟩:∃m,r4.length=m:=⟨_,rfl⟩
 have HMM:=hide hmm
 rw[hmm] at hm4 h3 HX
 clear h hr4 hr6 x0 x1 x2 h3 hmm
 go_enter Tryz.func15,Tryz.ntmps15
 go_wp2_with fail
 refine HS.out.mono ?_
 rintro e w1 ⟨rfl,rfl⟩
 go_wp2_with fail
 refine (HN.out _).mono ?_
 rintro e w2 ⟨rfl,rfl⟩
 go_wp2_with fail
 refine HE.out.mono ?_
 rintro e w3 ⟨rfl,hb3⟩
 have HB:=hide hb3
 obtain⟨x2,x3⟩:=HX.out w3 hb3
 clear hb3
 go_wp2_with fail
 go_loopw [6] (fun iv wr=>iv=.int .i64 0∧wr=w3) (fun _ _=>0)
 case atStart=>exact⟨rfl,rfl⟩
 case round =>
  obtain⟨rfl,rfl⟩:=hrel
  rename World=>A
  go_wp2_with fail
  go_loopw [9] (fun iv wr=>∃i:Nat,i≤m∧iv=.int .i64 (i:Int)∧Below w2.heap.size w2 wr) (fun iv _=>m - (intOf iv).toNat)
  case atStart=>exact⟨0,by omega,rfl,HB.out⟩
  case round =>
   obtain⟨i,him,rfl,hbw⟩:=hrel
   have HBw:=hide hbw
   obtain⟨_,y3⟩:=HX.out wr hbw
   clear hbw x2 x3
   have j0:(0:Int)≤(i:Int):=by omega
   by_cases hil:i<m
   ·have j1:(i:Int)<(m:Int):=by omega
    have HA:Hid (∀W,Below w2.heap.size w2 W→∃q lc a k b,Value.slice pa m pc=.slice (some ⟨q,0,none⟩) m lc∧W.cell? ⟨q,i,none⟩=some (.slice a k b)∧k≤3000000∧∀j,j<k→∃g,a=some ⟨g,0,none⟩∧W.cell? ⟨g,j*2,none⟩=some (.string (markS (i / 4)))∧W.cell? ⟨g,j*2+1,none⟩=some (.string ⟨#[]⟩)):=fun W hW=>by
     have h:=(HD.out.keep hW).at' (i:=i) (by rw[HMM.out];exact hil)
     rw[HMM.out] at h
     exact h
    obtain⟨q,lc,a,k,bb,e,hq,hk,_⟩:=HA.out w2 (Below.refl _ _)
    obtain⟨rfl,rfl⟩:pa=some ⟨q,0,none⟩∧pc=lc:=by simpa using e
    have HK:Hid (∀W,Below w2.heap.size w2 W→W.cell? ⟨q,i,none⟩=some (.slice a k bb)∧∀j,j<k→∃g,a=some ⟨g,0,none⟩∧W.cell? ⟨g,j*2,none⟩=some (.string (markS (i / 4)))∧W.cell? ⟨g,j*2+1,none⟩=some (.string ⟨#[]⟩)):=fun W hW=>by
     obtain⟨q', lc', a', k', b', e', hq', _,h4⟩:=HA.out W hW
     obtain⟨rfl,rfl⟩:q=q' ∧ pc=lc' := by simpa using e'
     have hq2:=(hW.cell (p:=⟨q,i,none⟩) (World.block_lt_of_cell? w2 _ hq)).trans hq
     rw[hq'] at hq2
     obtain⟨rfl,rfl,rfl⟩:a' = a∧k' = k∧b' = bb:=by simpa using hq2
     exact⟨hq', h4⟩
    clear hq e HA
    have HM:=hide (fun W=>mark_any (i / 4) W (by omega))
    have hdv:(i:Int) / 4=((i / 4:Nat):Int):=by omega
    generalize i / 4=ii at *
    go_wp2_with fail
    refine (HM.out _).mono ?_
    rintro e w1 ⟨rfl,hb1⟩
    have HB1:Hid (Below w2.heap.size w2 w1):=HBw.out.trans (hb1.mono HBw.out.size)
    clear hb1
    obtain⟨M,hM⟩:∃M,markS ii=M:=⟨_,rfl⟩
    rw[hM] at HK ⊢
    clear hM HM
    have HNw:Hid ((w1.alloc (.cells #[.string M,.string ⟨#[]⟩] 33)).heap[w1.heap.size]? = some (.cells #[.string M,.string ⟨#[]⟩] 33 (0,0))):=heap_alloc_new _ _
    have HB2:Hid (Below w2.heap.size w2 (w1.alloc (.cells #[.string M,.string ⟨#[]⟩] 33))):=HB1.out.alloc HB1.out.size _
    go_wp2_with fail
    generalize (w1.alloc (.cells #[.string M,.string ⟨#[]⟩] 33))=W2 at *
    generalize w1.heap.size=X at *
    clear HBw HB1
    go_loopw [11] (fun kv W=>∃j:Nat,j≤k∧kv=.int .i64 (j:Int)∧Below W2.heap.size W2 W) (fun kv _=>k - (intOf kv).toNat)
    case atStart=>exact⟨0,by omega,rfl,Below.refl _ _⟩
    case round =>
     obtain⟨j,hj3,rfl,hbk⟩:=hrel
     have HBK:=hide hbk
     have HBW:Hid (Below w2.heap.size w2 wr):=HB2.out.trans (hbk.mono HB2.out.size)
     obtain⟨y1,hrow⟩:=HK.out wr HBW.out
     obtain⟨_,z3⟩:=HX.out wr HBW.out
     have hbox:wr.heap[X]? = some (.cells #[.string M,.string ⟨#[]⟩] 33 (0,0)):=(hbk.block X (aGe.1 HNw.out).1).trans HNw.out
     have b1:wr.cell? ⟨X,0,none⟩=some (.string M):=cell_of_row _ _ 0 _ _ (0,0) hbox
     have b2:wr.cell? ⟨X,1,none⟩=some (.string ⟨#[]⟩):=cell_of_row _ _ 1 _ _ (0,0) hbox
     have k0:(0:Int)≤(j:Int):=by omega
     clear hbk hbox
     by_cases h3:j<k
     ·have k1:(j:Int)<(k:Int):=by omega
      obtain⟨g,rfl,c1,c2⟩:=hrow j h3
      clear hrow
      go_wp2_with fail
      go_region
      all_goals
       go_wp2
       go_roundw
       case rel=>exact⟨j+1,by omega,by go_num,HBK.out.drew⟩
       case measure=>simp[intOf];omega
     ·obtain rfl:j=k:=by omega
      clear hrow
      go_wp2
      go_roundw
      case rel=>exact⟨i+1,by omega,by go_num,HBW.out⟩
      case measure=>simp[intOf];omega
   ·obtain rfl:i=m:=by omega
    go_wp2
    go_ret
    exact⟨rfl,HBw.out⟩
end Go.Proofs.YthdjmldddjljfaaGreatDoor
