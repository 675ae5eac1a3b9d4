/-
  OUR OWN.
-/
import Derived.Test.YthdjmldddjljfaaGreatDoorG34
set_option maxHeartbeats 8000000
set_option maxRecDepth 20000
namespace Go.Proofs.YthdjmldddjljfaaGreatDoor.V
open Go.RowKit
attribute [local go_sem ↓] Go.wp_at_zero Go.wp_at_succ
def RowL (base:Nat)(w:World)(v:Value)(L:List Th):Prop:=(L=[]∧v=.slice none 0 0)∨(L≠[]∧ThRow base w v L)
theorem RowL.keep {base:Nat}{w w' : World}{v:Value}{L:List Th}(h:RowL base w v L)(hb:Below w.heap.size w w'):RowL base w' v L:=h.imp id (fun h=>⟨h.1,h.2.keep hb⟩)
theorem RowL.base {base base' : Nat}{w:World}{v:Value}{L:List Th}(h:RowL base w v L)(hb:base' ≤ base):RowL base' w v L:=h.imp id (fun h=>⟨h.1,h.2.base hb⟩)
theorem RowL.row {base:Nat}{w:World}{v:Value}{L:List Th}(h:RowL base w v L):ThRow base w v L:=by
 rcases h with⟨rfl,rfl⟩|⟨_,h⟩
 ·exact ThRow.nil _ _
 ·exact h
theorem RowL.shape {base:Nat}{w:World}{v:Value}{L:List Th}(h:RowL base w v L):∃ao cap,v=.slice ao L.length cap:=h.row.shape
theorem lone_row (base:Nat)(lv:Value)(L:List Th)(w:World)(hr:RowL base w lv L)(hn:NoHash L)(hs:Short L)(hL:L.length≤1000000000) :
  Calls Tryz.prog 89 #[lv,.int .i64 0] w fun e w' => e=.returned (.int .i64 (-1))∧Below w.heap.size w w' := by
 rcases hr with⟨rfl,rfl⟩|⟨hne,hr⟩
 ·exact lone_nil _ ⟨_,_,rfl⟩ 0 w
 ·have h0:0 < L.length:=List.length_pos_iff.2 hne
  obtain⟨g,cap,_,_,rfl,_⟩:=hr.cellAt 0 h0
  obtain⟨hc1,hc2⟩:=hr.capLe
  unfold maxLen at hc2
  exact lone_ok L.length L (Nat.le_refl _) h0 hn hs hL g 0 cap 0 w hr.sl hc1 (by omega) (by omega)
theorem settled_plain (sv:Value)(base:Nat)(lv:Value)(L:List Th)(w:World)(hr:RowL base w lv L)(hn:NoHash L)(hs:Short L)(hL:L.length≤1000000000) :
  Calls Tryz.prog 52 #[sv,lv] w fun e w' => e=.returned (.tuple #[lv,.int .i64 0])∧Below w.heap.size w w' := by
 have HLo:=hide (lone_row base lv L w hr hn hs hL)
 clear hr hn hs hL
 go_enter Tryz.func52,Tryz.ntmps52
 go_wp2_with fail
 refine HLo.out.mono ?_
 rintro e w1 ⟨rfl,hb1⟩
 have HB1:=hide hb1
 clear hb1
 go_wp2_with fail
 go_loopw [1,6] (fun l k wr=>l=lv∧k=.int .i64 (-1)∧wr=w1) (fun _ _ _=>0)
 case atStart=>exact⟨rfl,rfl,rfl⟩
 case round =>
  obtain⟨rfl,rfl,rfl⟩:=hrel
  go_wp2
  go_ret2
  exact⟨rfl,HB1.out⟩
theorem replaced_last (g cap:Nat)(w:World)(hc:1≤cap) :
  Calls Tryz.prog 51 #[.slice (some ⟨g,0,none⟩) 1 cap,.int .i64 0,.slice none 0 0] w fun e w' => e=.returned (.slice none 0 0)∧Below w.heap.size w w' := by
 by_cases h1:cap=1
 ·subst h1
  go_enter Tryz.func51,Tryz.ntmps51
  go_wp2
  go_ret
  exact⟨rfl,Below.refl _ _⟩
 ·have h2:¬(cap:Int)=1:=by omega
  have h3:(1:Int)≤(cap:Int):=by omega
  have h4:(0:Int)≤(cap:Int):=by omega
  go_enter Tryz.func51,Tryz.ntmps51
  go_wp2
  go_ret
  exact⟨rfl,Below.refl _ _⟩
def putL (L:List Th)(P:List Int)(v:ByteArray):List Th :=
 if L.any (atF P)=true then L.take (L.findIdx (atF P))++(if v.size=0 then [] else [(⟨P,v,⟨#[]⟩,false⟩:Th)])++L.drop (L.findIdx (atF P)+1)
 else if v.size=0 then L else insL L P v
theorem ThRow.fresh {w:World}{pa:Option Addr}{pc:Nat}{P:List Int}(v:ByteArray)(h:PSl w pa pc P):ThRow w.heap.size (w.alloc (.cells #[.slice pa P.length pc,.string v,.string ⟨#[]⟩,.bool false] 118)) (.slice (some ⟨w.heap.size,0,none⟩) 1 1) [⟨P,v,⟨#[]⟩,false⟩]:=by
 have hn:=heap_alloc_new w (.cells #[.slice pa P.length pc,.string v,.string ⟨#[]⟩,.bool false] 118)
 refine⟨[[.slice pa P.length pc,.string v,.string ⟨#[]⟩,.bool false]],⟨rfl,.inr ⟨w.heap.size,1,_,rfl,Nat.le_refl _,hn,Nat.le_refl _,by unfold maxLen;omega,rfl,rfl⟩⟩,.cons ⟨pa,pc,rfl,h.keep (KpI.of_below (below_alloc _ _))⟩ .nil⟩
theorem replaced_row (base base2:Nat)(v bv:Value)(L M:List Th)(i:Nat)(w:World)(hr:ThRow base w v L)(hb:RowL base2 w bv M)(hi:i<L.length)(hL:L.length+M.length≤1000000000000) :
  Calls Tryz.prog 51 #[v,.int .i64 (i:Int),bv] w fun e w' => ∃rv,e=.returned rv∧RowL w.heap.size w' rv (L.take i++M++L.drop (i+1))∧Below w.heap.size w w' := by
 by_cases hne:L.take i++M++L.drop (i+1)=[]
 ·have h1:L.length=1∧i=0∧M=[]:=by
   have hl:(L.take i++M++L.drop (i+1)).length=0:=by rw[hne];rfl
   rw[List.length_append,List.length_append,List.length_take,List.length_drop] at hl
   refine⟨by omega,by omega,?_⟩
   exact List.length_eq_zero_iff.1 (by omega)
  obtain⟨hl,rfl,rfl⟩:=h1
  obtain⟨g,cap,_,_,rfl,_⟩:=hr.cellAt 0 hi
  obtain⟨hc1,_⟩:=hr.capLe
  obtain rfl:bv=.slice none 0 0:=by
   rcases hb with⟨_,h⟩|⟨h,_⟩
   ·exact h
   ·exact absurd rfl h
  rw[hl]
  refine (replaced_last g cap w (by omega)).mono ?_
  rintro e w' ⟨rfl,hb'⟩
  exact⟨_,rfl,.inl ⟨hne,rfl⟩,hb'⟩
 ·refine (replaced_any base base2 v bv L M i w hr hb.row hi hL).mono ?_
  rintro e w' ⟨rv,rfl,h1,h2⟩
  exact⟨rv,rfl,.inr ⟨hne,h1⟩,h2⟩
theorem put_any (sv:Value)(base:Nat)(lv:Value)(L:List Th)(pa:Option Addr)(pc:Nat)(P:List Int)(v:ByteArray)(w:World)(hr:RowL base w lv L)(hb:base≤w.heap.size)(hs:Short L)(hn:NoHash L)(hp:PSl w pa pc P)(hP:P.length≤128)(hL:L.length<1000000000) :
  Calls Tryz.prog 20 #[sv,lv,.slice pa P.length pc,.string v] w fun e w' => ∃rv,e=.returned (.tuple #[rv,.int .i64 0])∧RowL base w' rv (putL L P v)∧Below w.heap.size w w' := by
 by_cases hany:L.any (atF P)=true
 ·have hne:L≠[]:=fun e=>by rw[e] at hany;simp at hany
  have hr2:ThRow base w lv L:=hr.row
  have hi:L.findIdx (atF P)<L.length:=List.findIdx_lt_length.2 (by simpa using hany)
  have hat:atR L P=(L.findIdx (atF P):Int):=by unfold atR;rw[if_pos hany]
  have HA:=hide (along_plain sv lv L base pa pc P w hr2 hs hn hp (by omega) (by omega))
  have hAt:=fun W (hW:Below w.heap.size w W)=>at_any base lv L pa pc P W (hr2.keep hW) hs (by omega) (hp.keep (KpI.of_below hW)) (by omega)
  rw[hat] at hAt
  have HAt:=hide hAt
  obtain⟨k,hk⟩:∃k,L.findIdx (atF P)=k:=⟨_,rfl⟩
  rw[hk] at hi HAt
  have k0:(0:Int)≤(k:Int):=by omega
  by_cases hv:v.size=0
  ·obtain rfl:v=⟨#[]⟩:=ByteArray.ext (Array.eq_empty_of_size_eq_zero hv)
   have HE:Hid (putL L P ⟨#[]⟩=L.take k++[]++L.drop (k+1)):=by show _=_;unfold putL;rw[if_pos hany,hk];rfl
   have HRp:=hide (fun W (hW:Below w.heap.size w W)=>replaced_row base 0 lv (.slice none 0 0) L [] k W (hr2.keep hW) (.inl ⟨rfl,rfl⟩) hi (by simp;omega))
   have HSt:=hide (fun W rv (h:RowL w.heap.size W rv (L.take k++[]++L.drop (k+1)))=>settled_plain sv w.heap.size rv _ W h (fun x hx=>by
    simp only[List.append_nil,List.mem_append] at hx
    rcases hx with hx|hx
    ·exact hn x (List.mem_of_mem_take hx)
    ·exact hn x (List.mem_of_mem_drop hx)) (fun x hx=>by
    simp only[List.append_nil,List.mem_append] at hx
    rcases hx with hx|hx
    ·exact hs x (List.mem_of_mem_take hx)
    ·exact hs x (List.mem_of_mem_drop hx)) (by simp;omega))
   have HH:=hide hb
   clear hr hr2 hs hn hp hAt hat hany hne hv hb hL hP hk
   go_enter Tryz.func20,Tryz.ntmps20
   go_wp2_with fail
   refine HA.out.mono ?_
   rintro e w1 ⟨rfl,hb1⟩
   go_wp2_with fail
   refine (HAt.out _ hb1).mono ?_
   rintro e w2 ⟨rfl,hb2⟩
   have HB2:Hid (Below w.heap.size w w2):=hb1.trans (hb2.mono hb1.size)
   clear hb1 hb2
   go_wp2_with fail
   refine (HRp.out _ HB2.out).mono ?_
   rintro e w3 ⟨rv,rfl,hr3,hb3⟩
   have hr3' := hr3.base HB2.out.size
   have HB3:Hid (Below w.heap.size w w3):=HB2.out.trans (hb3.mono HB2.out.size)
   have HR3:=hide hr3'
   clear hr3 hr3' hb3
   go_wp2_with fail
   refine (HSt.out w3 _ HR3.out).mono ?_
   rintro e w4 ⟨rfl,hb4⟩
   have HB4:=hide hb4
   clear hb4
   go_wp2
   go_ret2
   exact⟨_,rfl,by rw[HE.out];exact (HR3.out.keep HB4.out).base HH.out,HB3.out.trans (HB4.out.mono HB3.out.size)⟩
  ·have hz:v.toList.isEmpty=false:=str_empty hv
   have HE:Hid (putL L P v=L.take k++[(⟨P,v,⟨#[]⟩,false⟩:Th)]++L.drop (k+1)):=by show _=_;unfold putL;rw[if_pos hany,hk,if_neg hv]
   have HRp:=hide (fun W (hW:Below w.heap.size w W)=>replaced_row base W.heap.size lv (.slice (some ⟨W.heap.size,0,none⟩) 1 1) L [⟨P,v,⟨#[]⟩,false⟩] k (W.alloc (.cells #[.slice pa P.length pc,.string v,.string ⟨#[]⟩,.bool false] 118)) (hr2.keep (hW.alloc hW.size _)) (.inr ⟨by simp,ThRow.fresh v (hp.keep (KpI.of_below hW))⟩) hi (by simp;omega))
   have HH:=hide hb
   clear hr hr2 hs hn hp hAt hat hany hne hv hb hL hP hk
   go_enter Tryz.func20,Tryz.ntmps20
   go_wp2_with fail
   refine HA.out.mono ?_
   rintro e w1 ⟨rfl,hb1⟩
   go_wp2_with fail
   refine (HAt.out _ hb1).mono ?_
   rintro e w2 ⟨rfl,hb2⟩
   have HB2:Hid (Below w.heap.size w w2):=hb1.trans (hb2.mono hb1.size)
   clear hb1 hb2
   go_wp2_with fail
   refine (HRp.out _ HB2.out).mono ?_
   rintro e w3 ⟨rv,rfl,hr3,hb3⟩
   have HB3:Hid (Below w.heap.size w w3):=(HB2.out.alloc HB2.out.size _).trans (hb3.mono (HB2.out.alloc HB2.out.size _).size)
   have HR3:=hide (hr3.base (Nat.le_trans HH.out (HB2.out.alloc HB2.out.size _).size))
   clear hr3 hb3
   go_wp2
   go_ret2
   exact⟨_,rfl,by rw[HE.out];exact HR3.out,HB3.out⟩
 ·have hany2:L.any (atF P)=false:=by simpa using hany
  by_cases hv:v.size=0
  ·obtain rfl:v=⟨#[]⟩:=ByteArray.ext (Array.eq_empty_of_size_eq_zero hv)
   have HE:Hid (putL L P ⟨#[]⟩=L):=by
    show _=_
    unfold putL
    rw[if_neg hany,if_pos hv]
   have hat:atR L P = -1:=by unfold atR;rw[hany2];rfl
   have hr2:=hr.row
   have HA:=hide (along_plain sv lv L base pa pc P w hr2 hs hn hp (by omega) (by omega))
   have hAt:=fun W (hW:Below w.heap.size w W)=>at_any base lv L pa pc P W (hr2.keep hW) hs (by omega) (hp.keep (KpI.of_below hW)) (by omega)
   rw[hat] at hAt
   have HAt:=hide hAt
   have HR:=hide hr
   clear hr hr2 hs hn hp hAt hat hany hany2 hv hb hL hP
   go_enter Tryz.func20,Tryz.ntmps20
   go_wp2_with fail
   refine HA.out.mono ?_
   rintro e w1 ⟨rfl,hb1⟩
   go_wp2_with fail
   refine (HAt.out _ hb1).mono ?_
   rintro e w2 ⟨rfl,hb2⟩
   have HB2:Hid (Below w.heap.size w w2):=hb1.trans (hb2.mono hb1.size)
   clear hb1 hb2
   go_wp2
   go_ret2
   exact⟨_,rfl,by rw[HE.out];exact HR.out.keep HB2.out,HB2.out⟩
  ·have HE:putL L P v=insL L P v:=by
    unfold putL
    rw[if_neg hany,if_neg hv]
   have hnil:insL L P v≠[]:=fun e=>by
    have h1:=congrArg List.length e
    unfold insL at h1
    rw[List.length_map,List.length_append,List.length_append] at h1
    simp at h1
   have fin:∀e w', PutPost L P v w e w' → ∃rv,e=.returned (.tuple #[rv,.int .i64 0])∧RowL base w' rv (putL L P v)∧Below w.heap.size w w' := by
    rintro e w' ⟨rv,rfl,h1,h2⟩
    exact⟨rv,rfl,by rw[HE];exact .inr ⟨hnil,h1.base hb⟩,h2⟩
   rcases hr with⟨rfl,rfl⟩|⟨hne,hr⟩
   ·exact (put_first sv pa pc P v w hp (by omega) hv).mono fin
   ·obtain⟨g,cap,_,_,rfl,_⟩:=hr.cellAt 0 (List.length_pos_iff.2 hne)
    exact (put_more sv base g cap L pa pc P v w hr hs hn hany2 hp (by omega) hL hv).mono fin
theorem less_big (pa qa:Option Addr)(pc qc:Nat)(p q:List Int)(w:World)(hp:PSl w pa pc p)(hq:PSl w qa qc q)(hl:p.length≤10000000)(hm:q.length≤10000000) :
  Calls Tryz.prog 53 #[.slice pa p.length pc,.slice qa q.length qc] w fun e w' => e=.returned (.bool (lessI p q))∧Below w.heap.size w w' := by
 obtain⟨z,hz⟩:∃z,Hid (lessI p q=z):=⟨_,Eq.refl _⟩
 rw[hz.out]
 have HP:=hide hp
 have HQ:=hide hq
 clear hp hq
 go_enter Tryz.func53,Tryz.ntmps53
 go_wp2_with fail
 go_loopw [5] (fun iv wr=>∃i:Nat,i≤p.length∧i≤q.length∧iv=.int .i64 (i:Int)∧Below w.heap.size w wr∧∀j,j<i→p.getD j 0=q.getD j 0) (fun iv _=>p.length - (intOf iv).toNat)
 case atStart=>exact⟨0,by omega,by omega,rfl,Below.refl _ _,fun j hj=>by omega⟩
 case round =>
  obtain⟨i,hi,hi2,rfl,hbw,hall⟩:=hrel
  have HA:=hide hall
  have HB:=hide hbw
  clear hall hbw
  by_cases hil:i<p.length∧i<q.length
  ·obtain⟨h1,h2⟩:=hil
   have j0:(0:Int)≤(i:Int):=by omega
   have j1:(i:Int)<(q.length:Int):=by omega
   have j2:(i:Int)<(p.length:Int):=by omega
   obtain⟨g1,o1,rfl,hc1⟩:=(HP.out.keep (KpI.of_below HB.out)).cellAt (by omega)
   obtain⟨g2,o2,rfl,hc2⟩:=(HQ.out.keep (KpI.of_below HB.out)).cellAt (by omega)
   have x1:=hc1 i h1
   have x2:=hc2 i h2
   have HK:Hid (∀n,(wr.drewN n).cell? ⟨g1,o1+i,none⟩=some (.int .i64 (p.getD i 0))∧(wr.drewN n).cell? ⟨g2,o2+i,none⟩=some (.int .i64 (q.getD i 0))):=fun n=>⟨x1,x2⟩
   clear hc1 hc2
   have HE:Hid ((p.getD i 0=q.getD i 0→∀j,j<i+1→p.getD j 0=q.getD j 0)∧(p.getD i 0≠q.getD i 0→z=decide (p.getD i 0 < q.getD i 0))):=⟨fun h j hj=>by
    by_cases e:j=i
    ·rw[e];exact h
    ·exact HA.out j (by omega),fun h=>by rw[←hz.out];exact lessI_ne h1 h2 HA.out h⟩
   generalize p.getD i 0=a at *
   generalize q.getD i 0=b at *
   by_cases hab:a=b
   ·have e1:(a == b)=true:=by simpa using hab
    have HA2:=hide (HE.out.1 hab)
    clear hab
    go_wp2_with fail
    go_quiet (fail)
    go_wp2
    go_roundw
    case rel=>exact⟨i+1,by omega,by omega,by go_num,below_drewN HB.out _,HA2.out⟩
    case measure=>simp[intOf];omega
   ·have hzz:=hide (HE.out.2 hab)
    have e1:(a == b)=false:=by simpa using hab
    clear hab
    go_wp2_with fail
    go_quiet (fail)
    go_wp2
    obtain⟨x1,x2⟩:=HK.out nq
    have HB2:=hide (below_drewN HB.out nq)
    generalize wr.drewN nq=W2 at *
    go_quiet (fail)
    go_wp2
    go_ret
    exact⟨by rw[hzz.out];rfl,below_drewN HB2.out _⟩
  ·have HF:Hid (z=decide (p.length<q.length)):=by
    show _=_
    rw[←hz.out];exact lessI_end hi hi2 (by omega) HA.out
   by_cases hp1:i<p.length
   ·obtain rfl:i=q.length:=by omega
    have j2:(q.length:Int)<(p.length:Int):=by omega
    have j3:¬(p.length:Int)<(q.length:Int):=by omega
    have HG:Hid (decide (p.length<q.length)=false):=decide_eq_false (by omega)
    go_wp2
    go_ret
    exact⟨by rw[HF.out,HG.out];rfl,HB.out⟩
   ·obtain rfl:i=p.length:=by omega
    go_wp2
    go_ret
    exact⟨by rw[HF.out];rfl,HB.out⟩
end Go.Proofs.YthdjmldddjljfaaGreatDoor.V
