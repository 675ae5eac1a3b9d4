/-
  OUR OWN.
-/
import Derived.Test.YthdjmldddjljfaaGreatDoorG45
import Derived.Test.YthdjmldddjljfaaGreatDoorG42
set_option maxHeartbeats 8000000
set_option maxRecDepth 20000
namespace Go.Proofs.YthdjmldddjljfaaGreatDoor
open Go.RowKit
attribute [local go_sem ↓] Go.wp_at_zero Go.wp_at_succ
theorem halves_big (k:ByteArray)(W:World)(hk:k.size≤2000000):Calls Tryz.prog 21 #[.string k] W fun e w' => ∃pa pc,e=.returned (.slice pa (intsOf (pathN k)).length pc)∧V.PSl w' pa pc (intsOf (pathN k))∧Below W.heap.size W w' := by
 refine (V.halves_any k W (by omega)).mono ?_
 rintro e w' ⟨v,rfl,ho,hb⟩
 rw[j_path,←path_len] at ho
 obtain⟨pa,pc,rfl,h⟩:=V.PSl.of_own ho
 exact⟨pa,pc,rfl,h,hb⟩
def toldB (s:ByteArray)(z:List Nat×ByteArray):Bool:=!V.lessI (intsOf z.1) (intsOf (pathN s))
def toldP (s:ByteArray)(F:List (List Nat×ByteArray)):List Pr:=(F.filter (toldB s)).map fun z=>(keyOf z.1,z.2)
def eachR (n:Nd)(s:ByteArray)(most:Int):List Pr:=(toldP s (n.flat [])).take (min most 100).toNat
theorem toldP_snoc (s:ByteArray)(F:List (List Nat×ByteArray))(z:List Nat×ByteArray):toldP s (F++[z])=toldP s F++(if toldB s z=true then [(keyOf z.1,z.2)] else []):=by
 unfold toldP
 rw[List.filter_append,List.map_append]
 by_cases h:toldB s z=true
 ·simp[h]
 ·simp[h]
theorem toldP_pre (s:ByteArray)(F:List (List Nat×ByteArray))(i:Nat):∃M,toldP s F=toldP s (F.take i)++M:=by
 refine⟨toldP s (F.drop i),?_⟩
 unfold toldP
 rw[←List.map_append,←List.filter_append,List.take_append_drop]
theorem less_take (pa qa:Option Addr)(pc qc:Nat)(p q:List Int)(m:Nat)(w:World)(hp:V.PSl w pa pc p)(hq:V.PSl w qa qc q)(h1:m≤p.length)(h2:m≤q.length)(hm:m≤10000000) :
  Calls Tryz.prog 53 #[.slice pa m pc,.slice qa m qc] w fun e w' => ∃b,e=.returned (.bool b)∧Below w.heap.size w w' := by
 have e1:(p.take m).length=m:=by rw[List.length_take];omega
 have e2:(q.take m).length=m:=by rw[List.length_take];omega
 have h:=V.less_big pa qa pc qc (p.take m) (q.take m) w (hp.take m) (hq.take m) (by omega) (by omega)
 rw[e1,e2] at h
 exact h.mono (fun e w' h=>⟨_,h.1,h.2⟩)
def LV (N g cap i:Nat)(v:Value):Prop:=(i<N∧v=.slice (some ⟨g,i*4,none⟩) (N - i) (cap - i))∨(i=N∧∃a c,v=.slice a 0 c)
theorem LV.next {N g cap i Ni Ca:Nat}(hil:i<N)(h1:N - i=Ni)(h2:cap - i=Ca)(hc:N≤cap):(Ca=1→LV N g cap (i+1) (.slice (some ⟨g,i*4,none⟩) (Ni - 1) 0))∧LV N g cap (i+1) (.slice (some ⟨g,i*4+4,none⟩) (Ni - 1) (Ca - 1)):=by
 constructor
 ·intro e
  exact .inr ⟨by omega,_,_,by rw[show Ni - 1=0 from by omega]⟩
 ·by_cases h:i+1 < N
  ·exact .inl ⟨h,by rw[show i*4+4=(i+1)*4 from by omega,show Ni - 1=N - (i+1) from by omega,show Ca - 1=cap - (i+1) from by omega]⟩
  ·exact .inr ⟨by omega,_,_,by rw[show Ni - 1=0 from by omega]⟩
theorem toldP_len (s:ByteArray)(F:List (List Nat×ByteArray)):(toldP s F).length≤F.length:=by
 unfold toldP
 rw[List.length_map]
 exact List.length_filter_le _ _
def lenLV:Value→Nat
 | .slice _ n _=>n
 | _=>0
theorem rtEach_any (S lv:Value)(R:Nat)(n:Nd)(s:ByteArray)(most:Int)(w:World)(h:RT w R S lv n)(hO:TOk n)(hkeys:KeysOk (n.flat []))(hs:s.size≤2000000)(hl:(n.flat []).length≤100000000) :
  Calls Tryz.prog 37 #[.pointer (some ⟨R,0,none⟩),.string s,.int .i64 most] w fun e w' => ∃v,e=.returned (.tuple #[v,.int .i64 0])∧w'.ownsRow w.heap.size 33 2 v (eachR n s most).length (prC (eachR n s most))∧Below w.heap.size w w' := by
 obtain⟨i0,hi0,hz0,hz1,hz2⟩:=info_parts infoPr
 obtain⟨L,⟨u,rfl⟩,hrow⟩:=h.list
 have HH:=hide h
 have HRow:=hide hrow
 have HK:=hide hkeys
 have HSh:=hide (flat_short hO)
 have HHv:=hide (fun W=>halves_big s W hs)
 have HPl:Hid ((intsOf (pathN s)).length≤10000000):=by show _≤_;rw[path_len];omega
 have z1:w.cell? ⟨R,1,none⟩=some lv:=cell_of_row _ _ 1 _ _ (0,0) h.box
 have HZ:Hid (∀W,Below w.heap.size w W→W.cell? ⟨R,1,none⟩=some lv):=fun W hW=>cell_of_row _ _ 1 _ _ (0,0) (h.keep hW).box
 clear h hkeys hO hs hrow
 by_cases hm:(100:Int)<most
 ·have HMn:Hid (eachR n s most=(toldP s (n.flat [])).take (100:Int).toNat):=by
   show _=_
   unfold eachR
   rw[show min most 100=100 from by omega]
  have hm0:decide ((100:Int)<most)=true:=by simpa using hm
  clear hm
  obtain⟨g,cap,hlv,hsl,hcap⟩:∃g cap,LV (n.flat []).length g cap 0 lv∧(∀W,Below w.heap.size w W→V.ThSl W g 0 ((n.flat []).map (thU u)))∧(n.flat []).length≤cap:=by
   rcases HRow.out with⟨e,h⟩|⟨hne,hr⟩
   ·have e2:n.flat []=[]:=List.map_eq_nil_iff.1 e
    exact⟨0,0,.inr ⟨by rw[e2];rfl,_,_,h⟩,fun W _ i hi=>by rw[e] at hi;simp at hi,by rw[e2];exact Nat.zero_le _⟩
   ·have h0:0 < ((n.flat []).map (thU u)).length:=List.length_pos_iff.2 hne
    obtain⟨g,cap,_,_,e,_⟩:=hr.cellAt 0 h0
    rw[e] at hr
    rw[List.length_map] at e h0
    refine⟨g,cap,.inl ⟨h0,by rw[e];rfl⟩,fun W hW=>(hr.keep hW).sl,?_⟩
    have:=hr.capLe.1
    rwa [List.length_map] at this
  have HLv:=hide hlv
  have HSl:=hide hsl
  have HCap:=hide hcap
  obtain⟨F,hF⟩:∃F,n.flat []=F:=⟨_,rfl⟩
  rw[hF] at HLv HSl HCap HK HSh HMn
  clear hlv hsl hcap HRow HH
  go_enter Tryz.func37,Tryz.ntmps37
  go_wp2_with fail
  refine (HHv.out _).mono ?_
  rintro e w1 ⟨pa,pc,rfl,hps,hb1⟩
  have HPs:=hide hps
  have HB1:=hide hb1
  have z11:=HZ.out w1 hb1
  clear hps hb1 z1
  go_wp2_with fail
  clear z11
  have HFl:Hid (F.length≤100000000):=by rw[←hF];exact hl
  have HNe:=hide hF
  clear hF hl
  go_loopw [9,10] (fun l ov wr=>∃(i c:Nat),i≤F.length∧LV F.length g cap i l∧c=(toldP s (F.take i)).length∧c≤(100:Int).toNat∧wr.ownsRow w1.heap.size 33 2 ov c (prC (toldP s (F.take i)))∧Below w1.heap.size w1 wr) (fun l _ _=>lenLV l)
  case atStart=>exact⟨0,0,by omega,HLv.out,rfl,by omega,World.ownsRow_nil _ _ _ _,Below.refl _ _⟩
  case round =>
   obtain⟨i,c,hi,hlv,hc,hcm,hown,hbw⟩:=hrel
   obtain⟨oa,oc,rfl⟩:=ownsRow_slice hown
   have HOw:=hide hown
   have HBw:=hide hbw
   have HBW:Hid (Below w.heap.size w wr):=HB1.out.trans (hbw.mono HB1.out.size)
   have HC:=hide (And.intro hc hcm)
   have HFin:Hid (¬((c:Int)<100)∨i=F.length→toldP s (F.take i)=eachR n s most):=fun h=>by
    rw[HMn.out]
    rcases h with h|h
    ·obtain⟨M,hM⟩:=toldP_pre s F i
     have hle:(100:Int).toNat≤(toldP s (F.take i)).length:=by omega
     have hge:(toldP s (F.take i)).length≤(100:Int).toNat:=by omega
     rw[hM,List.take_append_of_le_length hle,List.take_of_length_le hge]
    ·rw[h,List.take_length]
     rw[h,List.take_length] at hc
     have hge:(toldP s F).length≤(100:Int).toNat:=by omega
     rw[List.take_of_length_le hge]
   clear hown hbw
   by_cases hcM:(c:Int)<100
   ·by_cases hil:i<F.length
    ·obtain rfl:u9=.slice (some ⟨g,i*4,none⟩) (F.length - i) (cap - i):=by
      rcases hlv with⟨_,h⟩|⟨h,_⟩
      ·exact h
      ·omega
     have hx:=HSl.out wr HBW.out i (by rw[List.length_map];exact hil)
     obtain⟨qa,qc,hq,x0,x1,x2,x3⟩:=hx
     obtain⟨z,hz⟩:∃z,F[i]=z:=⟨_,rfl⟩
     have e:((F.map (thU u)).getD i V.th0)=thU u z:=by rw[List.getD_eq_getElem?_getD,List.getElem?_map,List.getElem?_eq_getElem hil,←hz];rfl
     rw[e] at hq x0 x1 x2 x3
     have hzm:z∈F:=by rw[←hz];exact List.getElem_mem hil
     have HPl2:=HSh.out z hzm
     obtain⟨⟨key,hkey,hksz⟩,_⟩:=HK.out z hzm
     have HSn:Hid (toldP s (F.take (i+1))=toldP s (F.take i)++(if toldB s z=true then [(key,z.2)] else [])):=by
      show _=_
      rw[List.take_succ_eq_append_getElem hil,toldP_snoc,hz]
      rw[show keyOf z.1=key from by rw[hkey];exact keyOf_path key]
     have hpath:(thU u z).path=intsOf (pathN key):=by rw[←hkey];rfl
     rw[hpath] at hq x0
     have x0:wr.cell? ⟨g,i*4,none⟩=some (.slice qa (intsOf (pathN key)).length qc):=by simpa using x0
     have x1:wr.cell? ⟨g,i*4+1,none⟩=some (.string z.2):=by simpa[thU] using x1
     have x2:wr.cell? ⟨g,i*4+2,none⟩=some (.string ⟨#[]⟩):=by simpa[thU] using x2
     have x3:wr.cell? ⟨g,i*4+3,none⟩=some (.bool (u z.1)):=by simpa[thU] using x3
     have hTB:toldB s z = !V.lessI (intsOf (pathN key)) (intsOf (pathN s)):=by unfold toldB;rw[hkey]
     have hPn:(intsOf (pathN key)).length≤128:=by rw[path_len];omega
     have HQ:=hide hq
     obtain⟨zv,hzv⟩:∃v,z.2=v:=⟨_,rfl⟩
     obtain⟨zb,hzb⟩:∃b,u z.1=b:=⟨_,rfl⟩
     rw[hzv] at x1 HSn
     rw[hzb] at x3
     have HB2:Hid (Below w.heap.size w (wr.alloc (.cells #[.slice qa (intsOf (pathN key)).length qc,.string zv,.string ⟨#[]⟩,.bool zb] 118))):=HBW.out.alloc HBW.out.size _
     have HX2:Hid ((wr.alloc (.cells #[.slice qa (intsOf (pathN key)).length qc,.string zv,.string ⟨#[]⟩,.bool zb] 118)).heap[wr.heap.size]? = some (.cells #[.slice qa (intsOf (pathN key)).length qc,.string zv,.string ⟨#[]⟩,.bool zb] 118 (0,0))):=heap_alloc_new _ _
     have HLs:=hide (fun W (hW:Below w1.heap.size w1 W) (hW2:Below wr.heap.size wr W)=>V.less_big qa pa qc pc (intsOf (pathN key)) (intsOf (pathN s)) W (hq.keep (V.KpI.of_below hW2)) (HPs.out.keep (V.KpI.of_below hW)) (by omega) HPl.out)
     have HLt:=hide (fun W m (hW:Below w1.heap.size w1 W) (hW2:Below wr.heap.size wr W) (h1:m≤(intsOf (pathN key)).length) (h2:m≤(intsOf (pathN s)).length)=>less_take qa pa qc pc (intsOf (pathN key)) (intsOf (pathN s)) m W (hq.keep (V.KpI.of_below hW2)) (HPs.out.keep (V.KpI.of_below hW)) h1 h2 (by omega))
     have HKy:=hide (fun W (hW2:Below wr.heap.size wr W)=>rKey_any key qa qc W (hq.keep (V.KpI.of_below hW2)) (by omega))
     have hqc:=hq.cap
     have hpc:=HPs.out.cap
     clear hq hz e hzm hkey hksz hpath hzv hzb HPl2
     generalize hPP:(intsOf (pathN key)).length=PL at *
     generalize hQQ:(intsOf (pathN s)).length=QL at *
     have b1:(1:Int)≤((F.length - i:Nat):Int):=by omega
     have b0:¬((F.length - i:Nat):Int)≤0:=by omega
     have b2:(0:Int)<((F.length - i:Nat):Int):=by omega
     generalize hNi:F.length - i=Ni at *
     generalize hCa:cap - i=Ca at *
     have HCc:=hide (And.intro hc hcm)
     clear hc hcm
     have HW2:Hid (Below w1.heap.size w1 (wr.alloc (.cells #[.slice qa PL qc,.string zv,.string ⟨#[]⟩,.bool zb] 118))∧Below wr.heap.size wr (wr.alloc (.cells #[.slice qa PL qc,.string zv,.string ⟨#[]⟩,.bool zb] 118))):=⟨HBw.out.alloc HBw.out.size _,below_alloc _ _⟩
     have HO2:=hide (HOw.out.alloc (.cells #[.slice qa PL qc,.string zv,.string ⟨#[]⟩,.bool zb] 118))
     by_cases hPQ:PL≤QL
     ·have p1:(PL:Int)≤(QL:Int):=by omega
      have p2:(PL:Int)≤(qc:Int):=by omega
      have p3:(PL:Int)≤(pc:Int):=by omega
      have p0:(0:Int)≤(PL:Int):=by omega
      go_wp2_with fail
      generalize (wr.alloc (.cells #[.slice qa PL qc,.string zv,.string ⟨#[]⟩,.bool zb] 118))=X2 at *
      generalize hbx:wr.heap.size=bx at *
      have y0:X2.cell? ⟨bx,0,none⟩=some (.slice qa PL qc):=cell_of_row _ _ 0 _ _ (0,0) HX2.out
      have HLm:=hide (HLt.out X2.drew PL HW2.out.1.drew HW2.out.2.drew (Nat.le_refl _) hPQ)
      have HNat:=hide (And.intro hCa (And.intro hi (And.intro hil (And.intro hNi (And.intro hqc (And.intro hpc (And.intro hPn hcM)))))))
      have HBx:=hide hbx
      clear hCa hi hil hNi hqc hpc hPn hPQ hlv x0 x1 x2 x3 hbx
      go_region_held3 (fun W=>W.cell? ⟨bx,0,none⟩=some (.slice qa PL qc)) (first|go_keep|(simp[*])) ((go_at_call 53;refine HLm.out.mono ?_;rintro e w5 ⟨nb,rfl,hb5⟩;have HB5:Hid (Below X2.heap.size X2 w5):=(Below.refl _ _).drew.trans hb5;have y05:w5.cell? ⟨bx,0,none⟩=some (.slice qa PL qc):=((HB5.out.cell (p:=⟨bx,0,none⟩) (World.block_lt_of_cell? X2 _ y0)).trans y0);clear hb5))
      all_goals
       have HLs5:=hide (HLs.out w5 (HW2.out.1.trans (HB5.out.mono HW2.out.1.size)) (HW2.out.2.trans (HB5.out.mono (by rw[←HBx.out];exact HW2.out.2.size))))
       clear y05
       have HY:Hid (∀W,Below X2.heap.size X2 W→W.cell? ⟨bx,0,none⟩=some (.slice qa PL qc)∧W.cell? ⟨bx,1,none⟩=some (.string zv)∧W.cell? ⟨bx,2,none⟩=some (.string ⟨#[]⟩)):=fun W hW=>by
        have hbl:=(aGe.1 HX2.out).1
        exact⟨(hW.cell (p:=⟨bx,0,none⟩) hbl).trans (cell_of_row _ _ 0 _ _ (0,0) HX2.out),(hW.cell (p:=⟨bx,1,none⟩) hbl).trans (cell_of_row _ _ 1 _ _ (0,0) HX2.out),(hW.cell (p:=⟨bx,2,none⟩) hbl).trans (cell_of_row _ _ 2 _ _ (0,0) HX2.out)⟩
       obtain⟨y05,y15,y25⟩:=HY.out w5 HB5.out
       obtain⟨lb,hlb⟩:∃lb,V.lessI (intsOf (pathN key)) (intsOf (pathN s))=lb:=⟨_,rfl⟩
       rw[hlb] at HLs5 hTB
       have HTB:=hide hTB
       clear hlb hTB
       go_wp2_with fail
       refine HLs5.out.mono ?_
       rintro e w6 ⟨rfl,hb6⟩
       have HB6:Hid (Below X2.heap.size X2 w6):=HB5.out.trans (hb6.mono HB5.out.size)
       obtain⟨y06,y16,y26⟩:=HY.out w6 HB6.out
       clear hb6 y05 y15 y25
       have HNx:=hide (LV.next (g:=g) HNat.out.2.2.1 HNat.out.2.2.2.1 HNat.out.1 HCap.out)
       cases lb with
       | true =>
         have HE:Hid (toldP s (F.take (i+1))=toldP s (F.take i)):=by
          show _=_
          rw[HSn.out,HTB.out,if_neg (by simp),List.append_nil]
         have HOw6:Hid (w6.ownsRow w1.heap.size 33 2 (.slice oa c oc) c (prC (toldP s (F.take i)))):=own_far HO2.out (fun gg _ hl=>HB6.out.block gg hl)
         have HBw6:Hid (Below w1.heap.size w1 w6):=HW2.out.1.trans (HB6.out.mono HW2.out.1.size)
         by_cases hC1:Ca=1
         ·subst hC1
          go_wp2
          exact⟨⟨i+1,c,by have:=HNat.out;omega,HNx.out.1 (by trivial),by rw[HE.out];exact HCc.out.1,HCc.out.2,by rw[HE.out];exact HOw6.out,HBw6.out⟩,by have:=HNat.out;simp[lenLV];omega⟩
         ·have r1:¬(Ca:Int)=1:=by omega
          have r2:(1:Int)≤(Ca:Int):=by have:=HNat.out;have:=HCap.out;omega
          go_wp2
          exact⟨⟨i+1,c,by have:=HNat.out;omega,HNx.out.2,by rw[HE.out];exact HCc.out.1,HCc.out.2,by rw[HE.out];exact HOw6.out,HBw6.out⟩,by have:=HNat.out;simp[lenLV];omega⟩
       | false =>
         have HE:Hid (toldP s (F.take (i+1))=toldP s (F.take i)++[(key,zv)]):=by
          show _=_
          rw[HSn.out,HTB.out,if_pos (by simp)]
         have HKy6:=hide (HKy.out w6 (HW2.out.2.trans (HB6.out.mono (by rw[←HBx.out];exact HW2.out.2.size))))
         go_wp2_with fail
         refine HKy6.out.mono ?_
         rintro e w7 ⟨rfl,hb7⟩
         have HB7:Hid (Below X2.heap.size X2 w7):=HB6.out.trans (hb7.mono HB6.out.size)
         obtain⟨y07,y17,y27⟩:=HY.out w7 HB7.out
         have HO7:=hide ((own_far HO2.out (fun gg _ hl=>HB7.out.block gg hl)).alloc (.cells #[.string key,.string zv] 33))
         have HNews:Hid (∀jx u,[Value.string key,.string zv][jx]? = some u→(w7.alloc (.cells #[.string key,.string zv] 33)).cell? ((⟨w7.heap.size,0,none⟩:Addr).add jx)=some u):=World.news_of_block (cs:=#[.string key,.string zv]) (heap_alloc_new w7 (.cells #[.string key,.string zv] 33))
         have HB8b:Hid (Below w1.heap.size w1 (w7.alloc (.cells #[.string key,.string zv] 33))):=(HW2.out.1.trans (HB7.out.mono HW2.out.1.size)).alloc (Nat.le_trans HW2.out.1.size HB7.out.size) _
         clear hb7 y06 y16 y26
         have hc100:c≤100000000:=by have h1:=HCc.out.1;have h2:=toldP_len s (F.take i);have h3:=HFl.out;rw[List.length_take] at h2;omega
         by_cases hC1:Ca=1
         ·subst hC1
          go_wp2_with (at_builtin;go_must (refine wpList_append_lies _ rfl (.tmp 98) (.tmp 103) 27 rfl w1.heap.size 33 i0 _ 2 32 Tryz.underlying27 hi0 hz0 hz1 hz2 rfl (by omega) (.slice oa c oc) c _ rfl HO7.out ⟨w7.heap.size,0,none⟩ 1 1 [.string key,.string zv] rfl rfl HNews.out (by simp[Value.oneCell']) (by omega) (by unfold maxLen;omega) (by omega) HB8b.out.size _ rfl ?_);intro g4 c4 w8 ho4 hg4 hat4 hlt4;go_must (have HX4:=hide (And.intro ho4 hg4));clear ho4 hg4 hat4 hlt4)
          exact⟨⟨i+1,c+1,by have:=HNat.out;omega,HNx.out.1 (by trivial),by rw[HE.out,List.length_append,←HCc.out.1];rfl,by have:=HNat.out;omega,by rw[HE.out,prC_snoc];exact HX4.out.1,HB8b.out.grown HX4.out.2 HB8b.out.size (own_ge HO7.out (Nat.le_refl _))⟩,by have:=HNat.out;simp[lenLV];omega⟩
         ·have r1:¬(Ca:Int)=1:=by omega
          have r2:(1:Int)≤(Ca:Int):=by have:=HNat.out;have:=HCap.out;omega
          go_wp2_with (at_builtin;go_must (refine wpList_append_lies _ rfl (.tmp 98) (.tmp 103) 27 rfl w1.heap.size 33 i0 _ 2 32 Tryz.underlying27 hi0 hz0 hz1 hz2 rfl (by omega) (.slice oa c oc) c _ rfl HO7.out ⟨w7.heap.size,0,none⟩ 1 1 [.string key,.string zv] rfl rfl HNews.out (by simp[Value.oneCell']) (by omega) (by unfold maxLen;omega) (by omega) HB8b.out.size _ rfl ?_);intro g4 c4 w8 ho4 hg4 hat4 hlt4;go_must (have HX4:=hide (And.intro ho4 hg4));clear ho4 hg4 hat4 hlt4)
          exact⟨⟨i+1,c+1,by have:=HNat.out;omega,HNx.out.2,by rw[HE.out,List.length_append,←HCc.out.1];rfl,by have:=HNat.out;omega,by rw[HE.out,prC_snoc];exact HX4.out.1,HB8b.out.grown HX4.out.2 HB8b.out.size (own_ge HO7.out (Nat.le_refl _))⟩,by have:=HNat.out;simp[lenLV];omega⟩
     ·have p1:(QL:Int)<(PL:Int):=by omega
      have p2:(QL:Int)≤(qc:Int):=by omega
      have p3:(QL:Int)≤(pc:Int):=by omega
      have p0:(0:Int)≤(QL:Int):=by omega
      go_wp2_with fail
      generalize (wr.alloc (.cells #[.slice qa PL qc,.string zv,.string ⟨#[]⟩,.bool zb] 118))=X2 at *
      generalize hbx:wr.heap.size=bx at *
      have y0:X2.cell? ⟨bx,0,none⟩=some (.slice qa PL qc):=cell_of_row _ _ 0 _ _ (0,0) HX2.out
      have HLm:=hide (HLt.out X2.drew QL HW2.out.1.drew HW2.out.2.drew (by omega) (Nat.le_refl _))
      have HNat:=hide (And.intro hCa (And.intro hi (And.intro hil (And.intro hNi (And.intro hqc (And.intro hpc (And.intro hPn hcM)))))))
      have HBx:=hide hbx
      clear hCa hi hil hNi hqc hpc hPn hPQ hlv x0 x1 x2 x3 hbx
      go_region_held3 (fun W=>W.cell? ⟨bx,0,none⟩=some (.slice qa PL qc)) (first|go_keep|(simp[*])) ((go_at_call 53;refine HLm.out.mono ?_;rintro e w5 ⟨nb,rfl,hb5⟩;have HB5:Hid (Below X2.heap.size X2 w5):=(Below.refl _ _).drew.trans hb5;have y05:w5.cell? ⟨bx,0,none⟩=some (.slice qa PL qc):=((HB5.out.cell (p:=⟨bx,0,none⟩) (World.block_lt_of_cell? X2 _ y0)).trans y0);clear hb5))
      all_goals
       have HLs5:=hide (HLs.out w5 (HW2.out.1.trans (HB5.out.mono HW2.out.1.size)) (HW2.out.2.trans (HB5.out.mono (by rw[←HBx.out];exact HW2.out.2.size))))
       clear y05
       have HY:Hid (∀W,Below X2.heap.size X2 W→W.cell? ⟨bx,0,none⟩=some (.slice qa PL qc)∧W.cell? ⟨bx,1,none⟩=some (.string zv)∧W.cell? ⟨bx,2,none⟩=some (.string ⟨#[]⟩)):=fun W hW=>by
        have hbl:=(aGe.1 HX2.out).1
        exact⟨(hW.cell (p:=⟨bx,0,none⟩) hbl).trans (cell_of_row _ _ 0 _ _ (0,0) HX2.out),(hW.cell (p:=⟨bx,1,none⟩) hbl).trans (cell_of_row _ _ 1 _ _ (0,0) HX2.out),(hW.cell (p:=⟨bx,2,none⟩) hbl).trans (cell_of_row _ _ 2 _ _ (0,0) HX2.out)⟩
       obtain⟨y05,y15,y25⟩:=HY.out w5 HB5.out
       obtain⟨lb,hlb⟩:∃lb,V.lessI (intsOf (pathN key)) (intsOf (pathN s))=lb:=⟨_,rfl⟩
       rw[hlb] at HLs5 hTB
       have HTB:=hide hTB
       clear hlb hTB
       go_wp2_with fail
       refine HLs5.out.mono ?_
       rintro e w6 ⟨rfl,hb6⟩
       have HB6:Hid (Below X2.heap.size X2 w6):=HB5.out.trans (hb6.mono HB5.out.size)
       obtain⟨y06,y16,y26⟩:=HY.out w6 HB6.out
       clear hb6 y05 y15 y25
       have HNx:=hide (LV.next (g:=g) HNat.out.2.2.1 HNat.out.2.2.2.1 HNat.out.1 HCap.out)
       cases lb with
       | true =>
         have HE:Hid (toldP s (F.take (i+1))=toldP s (F.take i)):=by
          show _=_
          rw[HSn.out,HTB.out,if_neg (by simp),List.append_nil]
         have HOw6:Hid (w6.ownsRow w1.heap.size 33 2 (.slice oa c oc) c (prC (toldP s (F.take i)))):=own_far HO2.out (fun gg _ hl=>HB6.out.block gg hl)
         have HBw6:Hid (Below w1.heap.size w1 w6):=HW2.out.1.trans (HB6.out.mono HW2.out.1.size)
         by_cases hC1:Ca=1
         ·subst hC1
          go_wp2
          exact⟨⟨i+1,c,by have:=HNat.out;omega,HNx.out.1 (by trivial),by rw[HE.out];exact HCc.out.1,HCc.out.2,by rw[HE.out];exact HOw6.out,HBw6.out⟩,by have:=HNat.out;simp[lenLV];omega⟩
         ·have r1:¬(Ca:Int)=1:=by omega
          have r2:(1:Int)≤(Ca:Int):=by have:=HNat.out;have:=HCap.out;omega
          go_wp2
          exact⟨⟨i+1,c,by have:=HNat.out;omega,HNx.out.2,by rw[HE.out];exact HCc.out.1,HCc.out.2,by rw[HE.out];exact HOw6.out,HBw6.out⟩,by have:=HNat.out;simp[lenLV];omega⟩
       | false =>
         have HE:Hid (toldP s (F.take (i+1))=toldP s (F.take i)++[(key,zv)]):=by
          show _=_
          rw[HSn.out,HTB.out,if_pos (by simp)]
         have HKy6:=hide (HKy.out w6 (HW2.out.2.trans (HB6.out.mono (by rw[←HBx.out];exact HW2.out.2.size))))
         go_wp2_with fail
         refine HKy6.out.mono ?_
         rintro e w7 ⟨rfl,hb7⟩
         have HB7:Hid (Below X2.heap.size X2 w7):=HB6.out.trans (hb7.mono HB6.out.size)
         obtain⟨y07,y17,y27⟩:=HY.out w7 HB7.out
         have HO7:=hide ((own_far HO2.out (fun gg _ hl=>HB7.out.block gg hl)).alloc (.cells #[.string key,.string zv] 33))
         have HNews:Hid (∀jx u,[Value.string key,.string zv][jx]? = some u→(w7.alloc (.cells #[.string key,.string zv] 33)).cell? ((⟨w7.heap.size,0,none⟩:Addr).add jx)=some u):=World.news_of_block (cs:=#[.string key,.string zv]) (heap_alloc_new w7 (.cells #[.string key,.string zv] 33))
         have HB8b:Hid (Below w1.heap.size w1 (w7.alloc (.cells #[.string key,.string zv] 33))):=(HW2.out.1.trans (HB7.out.mono HW2.out.1.size)).alloc (Nat.le_trans HW2.out.1.size HB7.out.size) _
         clear hb7 y06 y16 y26
         have hc100:c≤100000000:=by have h1:=HCc.out.1;have h2:=toldP_len s (F.take i);have h3:=HFl.out;rw[List.length_take] at h2;omega
         by_cases hC1:Ca=1
         ·subst hC1
          go_wp2_with (at_builtin;go_must (refine wpList_append_lies _ rfl (.tmp 98) (.tmp 103) 27 rfl w1.heap.size 33 i0 _ 2 32 Tryz.underlying27 hi0 hz0 hz1 hz2 rfl (by omega) (.slice oa c oc) c _ rfl HO7.out ⟨w7.heap.size,0,none⟩ 1 1 [.string key,.string zv] rfl rfl HNews.out (by simp[Value.oneCell']) (by omega) (by unfold maxLen;omega) (by omega) HB8b.out.size _ rfl ?_);intro g4 c4 w8 ho4 hg4 hat4 hlt4;go_must (have HX4:=hide (And.intro ho4 hg4));clear ho4 hg4 hat4 hlt4)
          exact⟨⟨i+1,c+1,by have:=HNat.out;omega,HNx.out.1 (by trivial),by rw[HE.out,List.length_append,←HCc.out.1];rfl,by have:=HNat.out;omega,by rw[HE.out,prC_snoc];exact HX4.out.1,HB8b.out.grown HX4.out.2 HB8b.out.size (own_ge HO7.out (Nat.le_refl _))⟩,by have:=HNat.out;simp[lenLV];omega⟩
         ·have r1:¬(Ca:Int)=1:=by omega
          have r2:(1:Int)≤(Ca:Int):=by have:=HNat.out;have:=HCap.out;omega
          go_wp2_with (at_builtin;go_must (refine wpList_append_lies _ rfl (.tmp 98) (.tmp 103) 27 rfl w1.heap.size 33 i0 _ 2 32 Tryz.underlying27 hi0 hz0 hz1 hz2 rfl (by omega) (.slice oa c oc) c _ rfl HO7.out ⟨w7.heap.size,0,none⟩ 1 1 [.string key,.string zv] rfl rfl HNews.out (by simp[Value.oneCell']) (by omega) (by unfold maxLen;omega) (by omega) HB8b.out.size _ rfl ?_);intro g4 c4 w8 ho4 hg4 hat4 hlt4;go_must (have HX4:=hide (And.intro ho4 hg4));clear ho4 hg4 hat4 hlt4)
          exact⟨⟨i+1,c+1,by have:=HNat.out;omega,HNx.out.2,by rw[HE.out,List.length_append,←HCc.out.1];rfl,by have:=HNat.out;omega,by rw[HE.out,prC_snoc];exact HX4.out.1,HB8b.out.grown HX4.out.2 HB8b.out.size (own_ge HO7.out (Nat.le_refl _))⟩,by have:=HNat.out;simp[lenLV];omega⟩
    ·obtain⟨a9,c9,rfl⟩:∃a9 c9,u9=.slice a9 0 c9:=by
      rcases hlv with⟨h,_⟩|⟨_,h⟩
      ·omega
      ·exact h
     have HF:=hide (HFin.out (.inr (by omega)))
     have HOf:=hide (own_base HOw.out HB1.out.size)
     have HCx:=hide hc
     clear hlv hc hcm hi hil
     go_wp2
     go_ret2
     exact⟨_,rfl,by rw[←HF.out,←HCx.out];exact HOf.out,HBW.out⟩
   ·have HF:=hide (HFin.out (.inl hcM))
    have HOf:=hide (own_base HOw.out HB1.out.size)
    have HCx:=hide hc
    have hcM2:100≤(c:Int):=by omega
    obtain⟨a9,l9,c9,rfl⟩:∃a9 l9 c9,u9=.slice a9 l9 c9:=by
     rcases hlv with⟨_,h⟩|⟨_,a,c,h⟩
     ·exact⟨_,_,_,h⟩
     ·exact⟨_,_,_,h⟩
    clear hlv hc hcm hi hcM
    go_wp2
    go_ret2
    exact⟨_,rfl,by rw[←HF.out,←HCx.out];exact HOf.out,HBW.out⟩
 ·have HMn:Hid (eachR n s most=(toldP s (n.flat [])).take most.toNat):=by
   show _=_
   unfold eachR
   rw[show min most 100=most from by omega]
  have hm0:decide ((100:Int)<most)=false:=by simpa using hm
  clear hm
  obtain⟨g,cap,hlv,hsl,hcap⟩:∃g cap,LV (n.flat []).length g cap 0 lv∧(∀W,Below w.heap.size w W→V.ThSl W g 0 ((n.flat []).map (thU u)))∧(n.flat []).length≤cap:=by
   rcases HRow.out with⟨e,h⟩|⟨hne,hr⟩
   ·have e2:n.flat []=[]:=List.map_eq_nil_iff.1 e
    exact⟨0,0,.inr ⟨by rw[e2];rfl,_,_,h⟩,fun W _ i hi=>by rw[e] at hi;simp at hi,by rw[e2];exact Nat.zero_le _⟩
   ·have h0:0 < ((n.flat []).map (thU u)).length:=List.length_pos_iff.2 hne
    obtain⟨g,cap,_,_,e,_⟩:=hr.cellAt 0 h0
    rw[e] at hr
    rw[List.length_map] at e h0
    refine⟨g,cap,.inl ⟨h0,by rw[e];rfl⟩,fun W hW=>(hr.keep hW).sl,?_⟩
    have:=hr.capLe.1
    rwa [List.length_map] at this
  have HLv:=hide hlv
  have HSl:=hide hsl
  have HCap:=hide hcap
  obtain⟨F,hF⟩:∃F,n.flat []=F:=⟨_,rfl⟩
  rw[hF] at HLv HSl HCap HK HSh HMn
  clear hlv hsl hcap HRow HH
  go_enter Tryz.func37,Tryz.ntmps37
  go_wp2_with fail
  refine (HHv.out _).mono ?_
  rintro e w1 ⟨pa,pc,rfl,hps,hb1⟩
  have HPs:=hide hps
  have HB1:=hide hb1
  have z11:=HZ.out w1 hb1
  clear hps hb1 z1
  go_wp2_with fail
  clear z11
  have HFl:Hid (F.length≤100000000):=by rw[←hF];exact hl
  have HNe:=hide hF
  clear hF hl
  go_loopw [9,10] (fun l ov wr=>∃(i c:Nat),i≤F.length∧LV F.length g cap i l∧c=(toldP s (F.take i)).length∧c≤(most:Int).toNat∧wr.ownsRow w1.heap.size 33 2 ov c (prC (toldP s (F.take i)))∧Below w1.heap.size w1 wr) (fun l _ _=>lenLV l)
  case atStart=>exact⟨0,0,by omega,HLv.out,rfl,by omega,World.ownsRow_nil _ _ _ _,Below.refl _ _⟩
  case round =>
   obtain⟨i,c,hi,hlv,hc,hcm,hown,hbw⟩:=hrel
   obtain⟨oa,oc,rfl⟩:=ownsRow_slice hown
   have HOw:=hide hown
   have HBw:=hide hbw
   have HBW:Hid (Below w.heap.size w wr):=HB1.out.trans (hbw.mono HB1.out.size)
   have HC:=hide (And.intro hc hcm)
   have HFin:Hid (¬((c:Int)<most)∨i=F.length→toldP s (F.take i)=eachR n s most):=fun h=>by
    rw[HMn.out]
    rcases h with h|h
    ·obtain⟨M,hM⟩:=toldP_pre s F i
     have hle:(most:Int).toNat≤(toldP s (F.take i)).length:=by omega
     have hge:(toldP s (F.take i)).length≤(most:Int).toNat:=by omega
     rw[hM,List.take_append_of_le_length hle,List.take_of_length_le hge]
    ·rw[h,List.take_length]
     rw[h,List.take_length] at hc
     have hge:(toldP s F).length≤(most:Int).toNat:=by omega
     rw[List.take_of_length_le hge]
   clear hown hbw
   by_cases hcM:(c:Int)<most
   ·by_cases hil:i<F.length
    ·obtain rfl:u9=.slice (some ⟨g,i*4,none⟩) (F.length - i) (cap - i):=by
      rcases hlv with⟨_,h⟩|⟨h,_⟩
      ·exact h
      ·omega
     have hx:=HSl.out wr HBW.out i (by rw[List.length_map];exact hil)
     obtain⟨qa,qc,hq,x0,x1,x2,x3⟩:=hx
     obtain⟨z,hz⟩:∃z,F[i]=z:=⟨_,rfl⟩
     have e:((F.map (thU u)).getD i V.th0)=thU u z:=by rw[List.getD_eq_getElem?_getD,List.getElem?_map,List.getElem?_eq_getElem hil,←hz];rfl
     rw[e] at hq x0 x1 x2 x3
     have hzm:z∈F:=by rw[←hz];exact List.getElem_mem hil
     have HPl2:=HSh.out z hzm
     obtain⟨⟨key,hkey,hksz⟩,_⟩:=HK.out z hzm
     have HSn:Hid (toldP s (F.take (i+1))=toldP s (F.take i)++(if toldB s z=true then [(key,z.2)] else [])):=by
      show _=_
      rw[List.take_succ_eq_append_getElem hil,toldP_snoc,hz]
      rw[show keyOf z.1=key from by rw[hkey];exact keyOf_path key]
     have hpath:(thU u z).path=intsOf (pathN key):=by rw[←hkey];rfl
     rw[hpath] at hq x0
     have x0:wr.cell? ⟨g,i*4,none⟩=some (.slice qa (intsOf (pathN key)).length qc):=by simpa using x0
     have x1:wr.cell? ⟨g,i*4+1,none⟩=some (.string z.2):=by simpa[thU] using x1
     have x2:wr.cell? ⟨g,i*4+2,none⟩=some (.string ⟨#[]⟩):=by simpa[thU] using x2
     have x3:wr.cell? ⟨g,i*4+3,none⟩=some (.bool (u z.1)):=by simpa[thU] using x3
     have hTB:toldB s z = !V.lessI (intsOf (pathN key)) (intsOf (pathN s)):=by unfold toldB;rw[hkey]
     have hPn:(intsOf (pathN key)).length≤128:=by rw[path_len];omega
     have HQ:=hide hq
     obtain⟨zv,hzv⟩:∃v,z.2=v:=⟨_,rfl⟩
     obtain⟨zb,hzb⟩:∃b,u z.1=b:=⟨_,rfl⟩
     rw[hzv] at x1 HSn
     rw[hzb] at x3
     have HB2:Hid (Below w.heap.size w (wr.alloc (.cells #[.slice qa (intsOf (pathN key)).length qc,.string zv,.string ⟨#[]⟩,.bool zb] 118))):=HBW.out.alloc HBW.out.size _
     have HX2:Hid ((wr.alloc (.cells #[.slice qa (intsOf (pathN key)).length qc,.string zv,.string ⟨#[]⟩,.bool zb] 118)).heap[wr.heap.size]? = some (.cells #[.slice qa (intsOf (pathN key)).length qc,.string zv,.string ⟨#[]⟩,.bool zb] 118 (0,0))):=heap_alloc_new _ _
     have HLs:=hide (fun W (hW:Below w1.heap.size w1 W) (hW2:Below wr.heap.size wr W)=>V.less_big qa pa qc pc (intsOf (pathN key)) (intsOf (pathN s)) W (hq.keep (V.KpI.of_below hW2)) (HPs.out.keep (V.KpI.of_below hW)) (by omega) HPl.out)
     have HLt:=hide (fun W m (hW:Below w1.heap.size w1 W) (hW2:Below wr.heap.size wr W) (h1:m≤(intsOf (pathN key)).length) (h2:m≤(intsOf (pathN s)).length)=>less_take qa pa qc pc (intsOf (pathN key)) (intsOf (pathN s)) m W (hq.keep (V.KpI.of_below hW2)) (HPs.out.keep (V.KpI.of_below hW)) h1 h2 (by omega))
     have HKy:=hide (fun W (hW2:Below wr.heap.size wr W)=>rKey_any key qa qc W (hq.keep (V.KpI.of_below hW2)) (by omega))
     have hqc:=hq.cap
     have hpc:=HPs.out.cap
     clear hq hz e hzm hkey hksz hpath hzv hzb HPl2
     generalize hPP:(intsOf (pathN key)).length=PL at *
     generalize hQQ:(intsOf (pathN s)).length=QL at *
     have b1:(1:Int)≤((F.length - i:Nat):Int):=by omega
     have b0:¬((F.length - i:Nat):Int)≤0:=by omega
     have b2:(0:Int)<((F.length - i:Nat):Int):=by omega
     generalize hNi:F.length - i=Ni at *
     generalize hCa:cap - i=Ca at *
     have HCc:=hide (And.intro hc hcm)
     clear hc hcm
     have HW2:Hid (Below w1.heap.size w1 (wr.alloc (.cells #[.slice qa PL qc,.string zv,.string ⟨#[]⟩,.bool zb] 118))∧Below wr.heap.size wr (wr.alloc (.cells #[.slice qa PL qc,.string zv,.string ⟨#[]⟩,.bool zb] 118))):=⟨HBw.out.alloc HBw.out.size _,below_alloc _ _⟩
     have HO2:=hide (HOw.out.alloc (.cells #[.slice qa PL qc,.string zv,.string ⟨#[]⟩,.bool zb] 118))
     by_cases hPQ:PL≤QL
     ·have p1:(PL:Int)≤(QL:Int):=by omega
      have p2:(PL:Int)≤(qc:Int):=by omega
      have p3:(PL:Int)≤(pc:Int):=by omega
      have p0:(0:Int)≤(PL:Int):=by omega
      go_wp2_with fail
      generalize (wr.alloc (.cells #[.slice qa PL qc,.string zv,.string ⟨#[]⟩,.bool zb] 118))=X2 at *
      generalize hbx:wr.heap.size=bx at *
      have y0:X2.cell? ⟨bx,0,none⟩=some (.slice qa PL qc):=cell_of_row _ _ 0 _ _ (0,0) HX2.out
      have HLm:=hide (HLt.out X2.drew PL HW2.out.1.drew HW2.out.2.drew (Nat.le_refl _) hPQ)
      have HNat:=hide (And.intro hCa (And.intro hi (And.intro hil (And.intro hNi (And.intro hqc (And.intro hpc (And.intro hPn hcM)))))))
      have HBx:=hide hbx
      clear hCa hi hil hNi hqc hpc hPn hPQ hlv x0 x1 x2 x3 hbx
      go_region_held3 (fun W=>W.cell? ⟨bx,0,none⟩=some (.slice qa PL qc)) (first|go_keep|(simp[*])) ((go_at_call 53;refine HLm.out.mono ?_;rintro e w5 ⟨nb,rfl,hb5⟩;have HB5:Hid (Below X2.heap.size X2 w5):=(Below.refl _ _).drew.trans hb5;have y05:w5.cell? ⟨bx,0,none⟩=some (.slice qa PL qc):=((HB5.out.cell (p:=⟨bx,0,none⟩) (World.block_lt_of_cell? X2 _ y0)).trans y0);clear hb5))
      all_goals
       have HLs5:=hide (HLs.out w5 (HW2.out.1.trans (HB5.out.mono HW2.out.1.size)) (HW2.out.2.trans (HB5.out.mono (by rw[←HBx.out];exact HW2.out.2.size))))
       clear y05
       have HY:Hid (∀W,Below X2.heap.size X2 W→W.cell? ⟨bx,0,none⟩=some (.slice qa PL qc)∧W.cell? ⟨bx,1,none⟩=some (.string zv)∧W.cell? ⟨bx,2,none⟩=some (.string ⟨#[]⟩)):=fun W hW=>by
        have hbl:=(aGe.1 HX2.out).1
        exact⟨(hW.cell (p:=⟨bx,0,none⟩) hbl).trans (cell_of_row _ _ 0 _ _ (0,0) HX2.out),(hW.cell (p:=⟨bx,1,none⟩) hbl).trans (cell_of_row _ _ 1 _ _ (0,0) HX2.out),(hW.cell (p:=⟨bx,2,none⟩) hbl).trans (cell_of_row _ _ 2 _ _ (0,0) HX2.out)⟩
       obtain⟨y05,y15,y25⟩:=HY.out w5 HB5.out
       obtain⟨lb,hlb⟩:∃lb,V.lessI (intsOf (pathN key)) (intsOf (pathN s))=lb:=⟨_,rfl⟩
       rw[hlb] at HLs5 hTB
       have HTB:=hide hTB
       clear hlb hTB
       go_wp2_with fail
       refine HLs5.out.mono ?_
       rintro e w6 ⟨rfl,hb6⟩
       have HB6:Hid (Below X2.heap.size X2 w6):=HB5.out.trans (hb6.mono HB5.out.size)
       obtain⟨y06,y16,y26⟩:=HY.out w6 HB6.out
       clear hb6 y05 y15 y25
       have HNx:=hide (LV.next (g:=g) HNat.out.2.2.1 HNat.out.2.2.2.1 HNat.out.1 HCap.out)
       cases lb with
       | true =>
         have HE:Hid (toldP s (F.take (i+1))=toldP s (F.take i)):=by
          show _=_
          rw[HSn.out,HTB.out,if_neg (by simp),List.append_nil]
         have HOw6:Hid (w6.ownsRow w1.heap.size 33 2 (.slice oa c oc) c (prC (toldP s (F.take i)))):=own_far HO2.out (fun gg _ hl=>HB6.out.block gg hl)
         have HBw6:Hid (Below w1.heap.size w1 w6):=HW2.out.1.trans (HB6.out.mono HW2.out.1.size)
         by_cases hC1:Ca=1
         ·subst hC1
          go_wp2
          exact⟨⟨i+1,c,by have:=HNat.out;omega,HNx.out.1 (by trivial),by rw[HE.out];exact HCc.out.1,HCc.out.2,by rw[HE.out];exact HOw6.out,HBw6.out⟩,by have:=HNat.out;simp[lenLV];omega⟩
         ·have r1:¬(Ca:Int)=1:=by omega
          have r2:(1:Int)≤(Ca:Int):=by have:=HNat.out;have:=HCap.out;omega
          go_wp2
          exact⟨⟨i+1,c,by have:=HNat.out;omega,HNx.out.2,by rw[HE.out];exact HCc.out.1,HCc.out.2,by rw[HE.out];exact HOw6.out,HBw6.out⟩,by have:=HNat.out;simp[lenLV];omega⟩
       | false =>
         have HE:Hid (toldP s (F.take (i+1))=toldP s (F.take i)++[(key,zv)]):=by
          show _=_
          rw[HSn.out,HTB.out,if_pos (by simp)]
         have HKy6:=hide (HKy.out w6 (HW2.out.2.trans (HB6.out.mono (by rw[←HBx.out];exact HW2.out.2.size))))
         go_wp2_with fail
         refine HKy6.out.mono ?_
         rintro e w7 ⟨rfl,hb7⟩
         have HB7:Hid (Below X2.heap.size X2 w7):=HB6.out.trans (hb7.mono HB6.out.size)
         obtain⟨y07,y17,y27⟩:=HY.out w7 HB7.out
         have HO7:=hide ((own_far HO2.out (fun gg _ hl=>HB7.out.block gg hl)).alloc (.cells #[.string key,.string zv] 33))
         have HNews:Hid (∀jx u,[Value.string key,.string zv][jx]? = some u→(w7.alloc (.cells #[.string key,.string zv] 33)).cell? ((⟨w7.heap.size,0,none⟩:Addr).add jx)=some u):=World.news_of_block (cs:=#[.string key,.string zv]) (heap_alloc_new w7 (.cells #[.string key,.string zv] 33))
         have HB8b:Hid (Below w1.heap.size w1 (w7.alloc (.cells #[.string key,.string zv] 33))):=(HW2.out.1.trans (HB7.out.mono HW2.out.1.size)).alloc (Nat.le_trans HW2.out.1.size HB7.out.size) _
         clear hb7 y06 y16 y26
         have hc100:c≤100000000:=by have h1:=HCc.out.1;have h2:=toldP_len s (F.take i);have h3:=HFl.out;rw[List.length_take] at h2;omega
         by_cases hC1:Ca=1
         ·subst hC1
          go_wp2_with (at_builtin;go_must (refine wpList_append_lies _ rfl (.tmp 98) (.tmp 103) 27 rfl w1.heap.size 33 i0 _ 2 32 Tryz.underlying27 hi0 hz0 hz1 hz2 rfl (by omega) (.slice oa c oc) c _ rfl HO7.out ⟨w7.heap.size,0,none⟩ 1 1 [.string key,.string zv] rfl rfl HNews.out (by simp[Value.oneCell']) (by omega) (by unfold maxLen;omega) (by omega) HB8b.out.size _ rfl ?_);intro g4 c4 w8 ho4 hg4 hat4 hlt4;go_must (have HX4:=hide (And.intro ho4 hg4));clear ho4 hg4 hat4 hlt4)
          exact⟨⟨i+1,c+1,by have:=HNat.out;omega,HNx.out.1 (by trivial),by rw[HE.out,List.length_append,←HCc.out.1];rfl,by have:=HNat.out;omega,by rw[HE.out,prC_snoc];exact HX4.out.1,HB8b.out.grown HX4.out.2 HB8b.out.size (own_ge HO7.out (Nat.le_refl _))⟩,by have:=HNat.out;simp[lenLV];omega⟩
         ·have r1:¬(Ca:Int)=1:=by omega
          have r2:(1:Int)≤(Ca:Int):=by have:=HNat.out;have:=HCap.out;omega
          go_wp2_with (at_builtin;go_must (refine wpList_append_lies _ rfl (.tmp 98) (.tmp 103) 27 rfl w1.heap.size 33 i0 _ 2 32 Tryz.underlying27 hi0 hz0 hz1 hz2 rfl (by omega) (.slice oa c oc) c _ rfl HO7.out ⟨w7.heap.size,0,none⟩ 1 1 [.string key,.string zv] rfl rfl HNews.out (by simp[Value.oneCell']) (by omega) (by unfold maxLen;omega) (by omega) HB8b.out.size _ rfl ?_);intro g4 c4 w8 ho4 hg4 hat4 hlt4;go_must (have HX4:=hide (And.intro ho4 hg4));clear ho4 hg4 hat4 hlt4)
          exact⟨⟨i+1,c+1,by have:=HNat.out;omega,HNx.out.2,by rw[HE.out,List.length_append,←HCc.out.1];rfl,by have:=HNat.out;omega,by rw[HE.out,prC_snoc];exact HX4.out.1,HB8b.out.grown HX4.out.2 HB8b.out.size (own_ge HO7.out (Nat.le_refl _))⟩,by have:=HNat.out;simp[lenLV];omega⟩
     ·have p1:(QL:Int)<(PL:Int):=by omega
      have p2:(QL:Int)≤(qc:Int):=by omega
      have p3:(QL:Int)≤(pc:Int):=by omega
      have p0:(0:Int)≤(QL:Int):=by omega
      go_wp2_with fail
      generalize (wr.alloc (.cells #[.slice qa PL qc,.string zv,.string ⟨#[]⟩,.bool zb] 118))=X2 at *
      generalize hbx:wr.heap.size=bx at *
      have y0:X2.cell? ⟨bx,0,none⟩=some (.slice qa PL qc):=cell_of_row _ _ 0 _ _ (0,0) HX2.out
      have HLm:=hide (HLt.out X2.drew QL HW2.out.1.drew HW2.out.2.drew (by omega) (Nat.le_refl _))
      have HNat:=hide (And.intro hCa (And.intro hi (And.intro hil (And.intro hNi (And.intro hqc (And.intro hpc (And.intro hPn hcM)))))))
      have HBx:=hide hbx
      clear hCa hi hil hNi hqc hpc hPn hPQ hlv x0 x1 x2 x3 hbx
      go_region_held3 (fun W=>W.cell? ⟨bx,0,none⟩=some (.slice qa PL qc)) (first|go_keep|(simp[*])) ((go_at_call 53;refine HLm.out.mono ?_;rintro e w5 ⟨nb,rfl,hb5⟩;have HB5:Hid (Below X2.heap.size X2 w5):=(Below.refl _ _).drew.trans hb5;have y05:w5.cell? ⟨bx,0,none⟩=some (.slice qa PL qc):=((HB5.out.cell (p:=⟨bx,0,none⟩) (World.block_lt_of_cell? X2 _ y0)).trans y0);clear hb5))
      all_goals
       have HLs5:=hide (HLs.out w5 (HW2.out.1.trans (HB5.out.mono HW2.out.1.size)) (HW2.out.2.trans (HB5.out.mono (by rw[←HBx.out];exact HW2.out.2.size))))
       clear y05
       have HY:Hid (∀W,Below X2.heap.size X2 W→W.cell? ⟨bx,0,none⟩=some (.slice qa PL qc)∧W.cell? ⟨bx,1,none⟩=some (.string zv)∧W.cell? ⟨bx,2,none⟩=some (.string ⟨#[]⟩)):=fun W hW=>by
        have hbl:=(aGe.1 HX2.out).1
        exact⟨(hW.cell (p:=⟨bx,0,none⟩) hbl).trans (cell_of_row _ _ 0 _ _ (0,0) HX2.out),(hW.cell (p:=⟨bx,1,none⟩) hbl).trans (cell_of_row _ _ 1 _ _ (0,0) HX2.out),(hW.cell (p:=⟨bx,2,none⟩) hbl).trans (cell_of_row _ _ 2 _ _ (0,0) HX2.out)⟩
       obtain⟨y05,y15,y25⟩:=HY.out w5 HB5.out
       obtain⟨lb,hlb⟩:∃lb,V.lessI (intsOf (pathN key)) (intsOf (pathN s))=lb:=⟨_,rfl⟩
       rw[hlb] at HLs5 hTB
       have HTB:=hide hTB
       clear hlb hTB
       go_wp2_with fail
       refine HLs5.out.mono ?_
       rintro e w6 ⟨rfl,hb6⟩
       have HB6:Hid (Below X2.heap.size X2 w6):=HB5.out.trans (hb6.mono HB5.out.size)
       obtain⟨y06,y16,y26⟩:=HY.out w6 HB6.out
       clear hb6 y05 y15 y25
       have HNx:=hide (LV.next (g:=g) HNat.out.2.2.1 HNat.out.2.2.2.1 HNat.out.1 HCap.out)
       cases lb with
       | true =>
         have HE:Hid (toldP s (F.take (i+1))=toldP s (F.take i)):=by
          show _=_
          rw[HSn.out,HTB.out,if_neg (by simp),List.append_nil]
         have HOw6:Hid (w6.ownsRow w1.heap.size 33 2 (.slice oa c oc) c (prC (toldP s (F.take i)))):=own_far HO2.out (fun gg _ hl=>HB6.out.block gg hl)
         have HBw6:Hid (Below w1.heap.size w1 w6):=HW2.out.1.trans (HB6.out.mono HW2.out.1.size)
         by_cases hC1:Ca=1
         ·subst hC1
          go_wp2
          exact⟨⟨i+1,c,by have:=HNat.out;omega,HNx.out.1 (by trivial),by rw[HE.out];exact HCc.out.1,HCc.out.2,by rw[HE.out];exact HOw6.out,HBw6.out⟩,by have:=HNat.out;simp[lenLV];omega⟩
         ·have r1:¬(Ca:Int)=1:=by omega
          have r2:(1:Int)≤(Ca:Int):=by have:=HNat.out;have:=HCap.out;omega
          go_wp2
          exact⟨⟨i+1,c,by have:=HNat.out;omega,HNx.out.2,by rw[HE.out];exact HCc.out.1,HCc.out.2,by rw[HE.out];exact HOw6.out,HBw6.out⟩,by have:=HNat.out;simp[lenLV];omega⟩
       | false =>
         have HE:Hid (toldP s (F.take (i+1))=toldP s (F.take i)++[(key,zv)]):=by
          show _=_
          rw[HSn.out,HTB.out,if_pos (by simp)]
         have HKy6:=hide (HKy.out w6 (HW2.out.2.trans (HB6.out.mono (by rw[←HBx.out];exact HW2.out.2.size))))
         go_wp2_with fail
         refine HKy6.out.mono ?_
         rintro e w7 ⟨rfl,hb7⟩
         have HB7:Hid (Below X2.heap.size X2 w7):=HB6.out.trans (hb7.mono HB6.out.size)
         obtain⟨y07,y17,y27⟩:=HY.out w7 HB7.out
         have HO7:=hide ((own_far HO2.out (fun gg _ hl=>HB7.out.block gg hl)).alloc (.cells #[.string key,.string zv] 33))
         have HNews:Hid (∀jx u,[Value.string key,.string zv][jx]? = some u→(w7.alloc (.cells #[.string key,.string zv] 33)).cell? ((⟨w7.heap.size,0,none⟩:Addr).add jx)=some u):=World.news_of_block (cs:=#[.string key,.string zv]) (heap_alloc_new w7 (.cells #[.string key,.string zv] 33))
         have HB8b:Hid (Below w1.heap.size w1 (w7.alloc (.cells #[.string key,.string zv] 33))):=(HW2.out.1.trans (HB7.out.mono HW2.out.1.size)).alloc (Nat.le_trans HW2.out.1.size HB7.out.size) _
         clear hb7 y06 y16 y26
         have hc100:c≤100000000:=by have h1:=HCc.out.1;have h2:=toldP_len s (F.take i);have h3:=HFl.out;rw[List.length_take] at h2;omega
         by_cases hC1:Ca=1
         ·subst hC1
          go_wp2_with (at_builtin;go_must (refine wpList_append_lies _ rfl (.tmp 98) (.tmp 103) 27 rfl w1.heap.size 33 i0 _ 2 32 Tryz.underlying27 hi0 hz0 hz1 hz2 rfl (by omega) (.slice oa c oc) c _ rfl HO7.out ⟨w7.heap.size,0,none⟩ 1 1 [.string key,.string zv] rfl rfl HNews.out (by simp[Value.oneCell']) (by omega) (by unfold maxLen;omega) (by omega) HB8b.out.size _ rfl ?_);intro g4 c4 w8 ho4 hg4 hat4 hlt4;go_must (have HX4:=hide (And.intro ho4 hg4));clear ho4 hg4 hat4 hlt4)
          exact⟨⟨i+1,c+1,by have:=HNat.out;omega,HNx.out.1 (by trivial),by rw[HE.out,List.length_append,←HCc.out.1];rfl,by have:=HNat.out;omega,by rw[HE.out,prC_snoc];exact HX4.out.1,HB8b.out.grown HX4.out.2 HB8b.out.size (own_ge HO7.out (Nat.le_refl _))⟩,by have:=HNat.out;simp[lenLV];omega⟩
         ·have r1:¬(Ca:Int)=1:=by omega
          have r2:(1:Int)≤(Ca:Int):=by have:=HNat.out;have:=HCap.out;omega
          go_wp2_with (at_builtin;go_must (refine wpList_append_lies _ rfl (.tmp 98) (.tmp 103) 27 rfl w1.heap.size 33 i0 _ 2 32 Tryz.underlying27 hi0 hz0 hz1 hz2 rfl (by omega) (.slice oa c oc) c _ rfl HO7.out ⟨w7.heap.size,0,none⟩ 1 1 [.string key,.string zv] rfl rfl HNews.out (by simp[Value.oneCell']) (by omega) (by unfold maxLen;omega) (by omega) HB8b.out.size _ rfl ?_);intro g4 c4 w8 ho4 hg4 hat4 hlt4;go_must (have HX4:=hide (And.intro ho4 hg4));clear ho4 hg4 hat4 hlt4)
          exact⟨⟨i+1,c+1,by have:=HNat.out;omega,HNx.out.2,by rw[HE.out,List.length_append,←HCc.out.1];rfl,by have:=HNat.out;omega,by rw[HE.out,prC_snoc];exact HX4.out.1,HB8b.out.grown HX4.out.2 HB8b.out.size (own_ge HO7.out (Nat.le_refl _))⟩,by have:=HNat.out;simp[lenLV];omega⟩
    ·obtain⟨a9,c9,rfl⟩:∃a9 c9,u9=.slice a9 0 c9:=by
      rcases hlv with⟨h,_⟩|⟨_,h⟩
      ·omega
      ·exact h
     have HF:=hide (HFin.out (.inr (by omega)))
     have HOf:=hide (own_base HOw.out HB1.out.size)
     have HCx:=hide hc
     clear hlv hc hcm hi hil
     go_wp2
     go_ret2
     exact⟨_,rfl,by rw[←HF.out,←HCx.out];exact HOf.out,HBW.out⟩
   ·have HF:=hide (HFin.out (.inl hcM))
    have HOf:=hide (own_base HOw.out HB1.out.size)
    have HCx:=hide hc
    have hcM2:most≤(c:Int):=by omega
    obtain⟨a9,l9,c9,rfl⟩:∃a9 l9 c9,u9=.slice a9 l9 c9:=by
     rcases hlv with⟨_,h⟩|⟨_,a,c,h⟩
     ·exact⟨_,_,_,h⟩
     ·exact⟨_,_,_,h⟩
    clear hlv hc hcm hi hcM
    go_wp2
    go_ret2
    exact⟨_,rfl,by rw[←HF.out,←HCx.out];exact HOf.out,HBW.out⟩
end Go.Proofs.YthdjmldddjljfaaGreatDoor
namespace Go.Proofs.YthdjmldddjljfaaGreatDoor
open Go.RowKit
def pathB (l:List UInt8):List Nat:=(nibs l).map Int.toNat
theorem pathN_B (k:ByteArray):pathN k=pathB k.toList:=by
 unfold pathN pathB
 rw[ByteArray.toList_eq]
theorem pathB_cons (b:UInt8)(r:List UInt8):pathB (b :: r)=(b.toNat / 16) :: (b.toNat % 16) :: pathB r:=by
 unfold pathB
 simp only[nibs,List.map_cons]
 congr 1
theorem less_plt:∀(a b:List UInt8),Op.bytesLess a b=true↔plt (pathB a) (pathB b)
 | [],[]=>by simp[Op.bytesLess,pathB,nibs,plt]
 | [],b :: y=>by rw[pathB_cons];simp[Op.bytesLess,pathB,nibs,plt]
 | a :: x,[]=>by rw[pathB_cons];simp[Op.bytesLess,pathB,nibs,plt]
 | a :: x,b :: y=>by
   have ih:=less_plt x y
   rw[pathB_cons,pathB_cons]
   simp only[Op.bytesLess,plt,Bool.or_eq_true,Bool.and_eq_true,decide_eq_true_eq,beq_iff_eq,ih,UInt8.lt_iff_toNat_lt]
   constructor
   ·rintro (h|⟨rfl,h⟩)
    ·by_cases h1:a.toNat / 16 < b.toNat / 16
     ·exact .inl h1
     ·exact .inr ⟨by omega,.inl (by omega)⟩
    ·exact .inr ⟨rfl,.inr ⟨rfl,h⟩⟩
   ·rintro (h|⟨h1,h|⟨h2,h⟩⟩)
    ·exact .inl (by omega)
    ·exact .inl (by omega)
    ·exact .inr ⟨UInt8.toNat_inj.1 (by omega),h⟩
theorem less_nil (k:List UInt8):Op.bytesLess k []=false:=by cases k<;>rfl
theorem less_ff:∀(N:Nat) (k rest:List UInt8),k.length≤N→rest≠[]→Op.bytesLess k (List.replicate N 255++rest)=true
 | 0,k,rest,h,hr=>by
   obtain rfl:k=[]:=List.length_eq_zero_iff.1 (by omega)
   cases rest with
   | nil=>exact absurd rfl hr
   | cons _ _=>rfl
 | N+1,[],rest,_,_=>by
   rw[List.replicate_succ,List.cons_append];rfl
 | N+1,d :: k,rest,h,hr=>by
   have ih:=less_ff N k rest (by simpa using h) hr
   rw[List.replicate_succ,List.cons_append,Op.bytesLess,ih]
   have hd:=d.toNat_lt
   by_cases e:d=255
   ·simp[e]
   ·have h2:d<255:=by
     rw[UInt8.lt_iff_toNat_lt]
     have h3:d.toNat≠255:=fun h=>e (UInt8.toNat_inj.1 h)
     show d.toNat<255
     omega
    simp[h2]
theorem less_next (c:UInt8)(hc:c.toNat<255)(N:Nat)(rest:List UInt8)(hr:rest≠[]):∀(a k:List UInt8),k.length≤a.length+1+N →
  Op.bytesLess k (a++c :: (List.replicate N 255++rest))=Op.bytesLess k (a++[UInt8.ofNat (c.toNat+1)])
 | [],[],_=>rfl
 | [],d :: k,h=>by
   have h1:=less_ff N k rest (by simp at h;omega) hr
   have e1:(UInt8.ofNat (c.toNat+1)).toNat=c.toNat+1:=by rw[UInt8.toNat_ofNat'];omega
   simp only[List.nil_append,Op.bytesLess,h1,less_nil,Bool.and_true,Bool.and_false,Bool.or_false]
   rw[Bool.eq_iff_iff]
   simp only[Bool.or_eq_true,decide_eq_true_eq,beq_iff_eq,UInt8.lt_iff_toNat_lt,e1]
   constructor
   ·rintro (h|rfl)<;>omega
   ·intro h
    by_cases h2:d.toNat<c.toNat
    ·exact .inl h2
    ·exact .inr (UInt8.toNat_inj.1 (by omega))
 | x :: a,[],_=>rfl
 | x :: a,d :: k,h=>by
   have ih:=less_next c hc N rest hr a k (by simp at h ⊢;omega)
   simp only[List.cons_append,Op.bytesLess,ih]
theorem cutE_ff (s:ByteArray):∀(e j:Nat),cutE s e≤j→j<e→byteN s j=255
 | 0,j,_,h=>by omega
 | e+1,j,h1,h2=>by
   unfold cutE at h1
   split at h1
   ·by_cases hj:j=e
    ·subst hj;assumption
    ·exact cutE_ff s e j h1 (by omega)
   ·omega
theorem cutE_not (s:ByteArray):∀(e:Nat),cutE s e≠0→byteN s (cutE s e - 1)≠255
 | 0,h=>absurd rfl h
 | e+1,h=>by
   unfold cutE at h ⊢
   split
   ·rename_i h2
    rw[if_pos h2] at h
    exact cutE_not s e h
   ·assumption
theorem drop_ff (s:ByteArray)(h64:64 < s.size)(e:Nat)(he:e≤64)(hf:∀j,e≤j→j<64→byteN s j=255):s.data.toList.drop e=List.replicate (64 - e) 255++s.data.toList.drop 64:=by
 have hlen:s.data.toList.length=s.size:=by rw[Array.length_toList];rfl
 conv=>lhs;rw[←List.take_append_drop (64 - e) (s.data.toList.drop e),List.drop_drop,show e+(64 - e)=64 from by omega]
 congr 1
 rw[List.eq_replicate_iff]
 refine⟨by rw[List.length_take,List.length_drop,hlen];omega,fun b hb=>?_⟩
 obtain⟨j,hj,rfl⟩:=List.getElem_of_mem hb
 have hj2:j<64 - e:=by
  rw[List.length_take] at hj;omega
 have h255:=hf (e+j) (by omega) (by omega)
 unfold byteN at h255
 rw[List.getElem_take,List.getElem_drop]
 have hl:e+j<s.data.toList.length:=by rw[hlen];omega
 rw[List.getD_eq_getElem?_getD,List.getElem?_eq_getElem hl] at h255
 exact UInt8.toNat_inj.1 h255
theorem first_some {s f k:ByteArray}(h:firstB s=some f)(hk:k.size≤64):Op.bytesLess k.toList s.toList=Op.bytesLess k.toList f.toList:=by
 unfold firstB at h
 split at h
 ·injection h with h;rw[h]
 ·rename_i h64
  split at h
  ·cases h
  ·rename_i hc
   injection h with h
   subst h
   have hle:=cutE_le s 64
   have hlen:s.data.toList.length=s.size:=by rw[Array.length_toList];rfl
   have hd:=drop_ff s (by omega) (cutE s 64) hle (fun j h1 h2=>cutE_ff s 64 j h1 h2)
   have hne:=cutE_not s 64 hc
   generalize cutE s 64=e at *
   have hl:e - 1 < s.data.toList.length:=by rw[hlen];omega
   have hb:byteN s (e - 1)=(s.data.toList[e - 1]).toNat:=by unfold byteN;rw[List.getD_eq_getElem?_getD,List.getElem?_eq_getElem hl];rfl
   have hsplit:s.data.toList=s.data.toList.take (e - 1)++s.data.toList[e - 1] :: (List.replicate (64 - e) 255++s.data.toList.drop 64):=by
    rw[←hd]
    conv=>lhs;rw[←List.take_append_drop (e - 1) s.data.toList,List.drop_eq_getElem_cons hl,show e - 1+1=e from by omega]
   have hblt:=byteN_lt s (e - 1)
   have hkl:k.toList.length≤64:=by rw[ByteArray.toList_eq,Array.length_toList];exact hk
   have hnx:=less_next (s.data.toList[e - 1]) (by rw[←hb];omega) (64 - e) (s.data.toList.drop 64) (fun e0' => by
    have:=congrArg List.length e0'
    rw[List.length_drop,hlen] at this
    simp at this
    omega) (s.data.toList.take (e - 1)) k.toList (by rw[List.length_take];omega)
   rw[ByteArray.toList_eq s,hsplit,hnx]
   congr 1
   rw[ByteArray.toList_eq,ByteArray.data_append,Array.toList_append,hb]
   simp[strOfNums,ByteArray.data_extract]
theorem first_none {s k:ByteArray}(h:firstB s=none)(hk:k.size≤64):Op.bytesLess k.toList s.toList=true:=by
 unfold firstB at h
 split at h
 ·cases h
 ·rename_i h64
  split at h
  ·rename_i hc
   have hlen:s.data.toList.length=s.size:=by rw[Array.length_toList];rfl
   have hd:=drop_ff s (by omega) 0 (by omega) (fun j _ h2=>cutE_ff s 64 j (by omega) h2)
   rw[ByteArray.toList_eq s,←List.drop_zero (l:=s.data.toList),hd]
   refine less_ff 64 _ _ (by rw[ByteArray.toList_eq,Array.length_toList];exact hk) (fun e0' => ?_)
   have:=congrArg List.length e0'
   rw[List.length_drop,hlen] at this
   simp at this
   omega
  ·cases h
theorem each_same {n:Nd}(hk:KeysOk (n.flat []))(s:ByteArray)(most:Int):eachL n s most=eachR n s most:=by
 have htl:∀(q:List Nat) (F:List (List Nat×ByteArray)),(∀z∈F,(toldB s z=true↔¬cmpL z.1 q<0))→tellL q F=toldP s F:=by
  intro q F
  induction F with
  | nil=>intro _;rfl
  | cons z F ih =>
    intro h
    have h1:=h z (List.mem_cons_self ..)
    have h2:=ih (fun y hy=>h y (List.mem_cons_of_mem _ hy))
    unfold tellL toldP at h2 ⊢
    rw[List.flatMap_cons,List.filter_cons]
    by_cases e:cmpL z.1 q<0
    ·rw[if_pos e,if_neg (fun e2=>h1.1 e2 e),List.nil_append]
     exact h2
    ·rw[if_neg e,if_pos (h1.2 e),List.map_cons,h2]
     rfl
 have hB:∀z∈n.flat [],(toldB s z=true↔¬plt z.1 (pathN s)):=fun z _=>by
  unfold toldB
  rw[Bool.not_eq_true', ←Bool.not_eq_true,j_less]
 unfold eachL eachR
 cases hf:firstB s with
 | none =>
   have h0:toldP s (n.flat [])=[]:=by
    unfold toldP
    rw[List.map_eq_nil_iff,List.filter_eq_nil_iff]
    intro z hz h1
    obtain⟨⟨k,e,hks⟩,_⟩:=hk z hz
    have h2:=first_none hf hks
    rw[less_plt,←pathN_B,←pathN_B,←e] at h2
    exact (hB z hz).1 h1 h2
   rw[h0,List.take_nil]
 | some f =>
   have h1:tellL (pathN f) (n.flat [])=toldP s (n.flat []):=htl (pathN f) (n.flat []) fun z hz=>by
    obtain⟨⟨k,e,hks⟩,_⟩:=hk z hz
    have h2:=first_some hf hks
    rw[hB z hz,cmpL_neg,e,pathN_B,pathN_B,pathN_B,←less_plt,←less_plt,h2]
   by_cases hm:most≤0
   ·rw[show (min most 100).toNat=0 from by omega,List.take_zero]
    exact if_pos hm
   ·show (if most≤0 then [] else _)=_
    rw[if_neg hm,h1]
end Go.Proofs.YthdjmldddjljfaaGreatDoor
namespace Go.Proofs.YthdjmldddjljfaaGreatDoor
open Go.RowKit
attribute [local go_sem ↓] Go.wp_at_zero Go.wp_at_succ
theorem cEach_any (Hk:Nd→ByteArray→Prop)(ok:Nat→Prop)(T M:Nat)(n:Nd)(s:ByteArray)(most:Int)(w:World)(hA:TreeAt Hk ok w T (.map (some M)) n)(hO:TOk n)(hkeys:KeysOk (n.flat []))(hs:s.size≤9223372036854775807)(hm1:-9223372036854775808≤most)(hm2:most≤9223372036854775807) :
  Calls Tryz.prog 36 #[ptr T,.string s,.int .i64 most] w fun e w' => EachPost n s most w e w' := by
 have HP:=hide (tEach_any Hk ok T M n s most w hA hO hkeys hs hm1 hm2)
 clear hA hO hkeys
 unfold ptr at *
 go_enter Tryz.func36,Tryz.ntmps36
 go_wp2_with fail
 refine HP.out.mono ?_
 rintro e w5 ⟨v,rfl,h1,h2⟩
 have HX:=hide (And.intro h1 h2)
 clear h1 h2
 go_wp2
 go_ret2
 exact⟨v,rfl,HX.out.1,HX.out.2⟩
theorem KeysOk.set {n:Nd}(h:KeysOk (n.flat []))(hO:TOk n){k v:ByteArray}(hk:k.size≤64)(hv:v.size≤400):KeysOk ((n.set (pathN k) v).flat []):=fun x hx=>by
 have hO' := hO.set (pathN_lt k) (by rw[pathN_length];omega) hv
 obtain⟨h1,h2⟩:=(flat_mem0 hO'.wf x).1 hx
 rw[look_set hO.wf (pathN_lt k)] at h1
 by_cases e:pathN k=x.1
 ·rw[if_pos e] at h1
  exact⟨⟨k,e.symm,hk⟩,by rw[←h1];exact hv⟩
 ·rw[if_neg e] at h1
  exact h x ((flat_mem0 hO.wf x).2 ⟨h1,h2⟩)
theorem KeysOk.setAll {n:Nd}(h:KeysOk (n.flat []))(hO:TOk n):∀(ps:List Pr),(∀p∈ps,p.1.size≤64∧p.2.size≤400)→KeysOk ((setAll n ps).flat [])
 | [],_=>h
 | p :: ps,hp=>by
   have h1:=hp p (List.mem_cons_self ..)
   exact KeysOk.setAll (h.set hO h1.1 h1.2) (hO.set (pathN_lt _) (by rw[pathN_length];omega) h1.2) ps (fun q hq=>hp q (List.mem_cons_of_mem _ hq))
theorem KeysOk.nil0:KeysOk (Nd.nil.flat []):=fun x hx=>by cases hx
end Go.Proofs.YthdjmldddjljfaaGreatDoor
