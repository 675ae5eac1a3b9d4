/-
  OUR OWN.
-/
import Derived.Test.YthdjmldddjljfaaGreatDoorH29
import Derived.Test.YthdjmldddjljfaaGreatDoorH30
set_option maxHeartbeats 8000000
set_option maxRecDepth 20000
namespace Go.Proofs.YthdjmldddjljfaaGreatDoor.V
def code0:ByteArray:=strOfNums [128]
def root0:ByteArray:=hashOf code0
end Go.Proofs.YthdjmldddjljfaaGreatDoor.V
namespace Go.Proofs.YthdjmldddjljfaaGreatDoor.V
open Go.RowKit
attribute [local go_sem ↓] Go.wp_at_zero Go.wp_at_succ
theorem pre_len_le {q p:List Int}(h:q.isPrefixOf p=true):q.length≤p.length:=(List.isPrefixOf_iff_prefix.1 h).length_le
theorem pre_of {q p:List Int}(hl:q.length≤p.length)(h:∀j,j<q.length→p.getD j 0=q.getD j 0):q.isPrefixOf p=true:=by
 rw[List.isPrefixOf_iff_prefix,List.prefix_iff_eq_take]
 apply List.ext_getElem
 ·simp;omega
 ·intro j h1 h2
  have:=h j h1
  simp only[List.getD_eq_getElem?_getD,List.getElem?_eq_getElem h1,List.getElem?_eq_getElem (show j<p.length by omega),Option.getD_some] at this
  rw[List.getElem_take]
  exact this.symm
theorem pre_not {q p:List Int}{j:Nat}(hj:j<q.length)(h:p.getD j 0≠q.getD j 0):q.isPrefixOf p=false:=by
 cases hc:q.isPrefixOf p with
 | false=>rfl
 | true =>
   exfalso;apply h
   obtain⟨r,rfl⟩:=List.isPrefixOf_iff_prefix.1 hc
   simp[List.getD_eq_getElem?_getD,List.getElem?_append_left hj]
theorem PSl.cellAt {w:World}{ao:Option Addr}{cap:Nat}{p:List Int}(h:PSl w ao cap p)(hn:0 < p.length):∃g o,ao=some ⟨g,o,none⟩∧∀j,j<p.length→w.cell? ⟨g,o+j,none⟩=some (.int .i64 (p.getD j 0)):=by
 obtain⟨g,o,cur,h1,h2,h3⟩:=h.at' (List.length_pos_iff.1 hn)
 exact⟨g,o,h1,fun j hj=>(cell_of_row w g (o+j) cur _ (0,0) h2).trans (h3 j hj)⟩
theorem begins_any (pa qa:Option Addr)(pc qc:Nat)(p q:List Int)(w:World)(hp:PSl w pa pc p)(hq:PSl w qa qc q)(hl:p.length≤100000)(hm:q.length≤100000) :
  Calls Tryz.prog 87 #[.slice pa p.length pc,.slice qa q.length qc] w fun e w' => e=.returned (.bool (q.isPrefixOf p))∧Below w.heap.size w w' := by
 obtain⟨z,hz⟩:∃z,Hid (q.isPrefixOf p=z):=⟨_,Eq.refl _⟩
 rw[hz.out]
 by_cases hlt:p.length<q.length
 ·obtain rfl:z=false:=by
   rw[←hz.out]
   cases hc:q.isPrefixOf p with
   | false=>rfl
   | true=>have:=pre_len_le hc;omega
  have i1:(p.length:Int)<(q.length:Int):=by omega
  clear hp hq
  go_enter Tryz.func87,Tryz.ntmps87
  go_wp2
  go_ret
  exact⟨rfl,Below.refl _ _⟩
 ·have i1:(q.length:Int)≤(p.length:Int):=by omega
  have HP:=hide hp
  have HQ:=hide hq
  clear hp hq
  go_enter Tryz.func87,Tryz.ntmps87
  go_wp2_with fail
  go_loopw [5] (fun iv wr=>∃i:Nat,i≤q.length∧iv=.int .i64 (i:Int)∧Below w.heap.size w wr∧∀j,j<i→p.getD j 0=q.getD j 0) (fun iv _=>q.length - (intOf iv).toNat)
  case atStart=>exact⟨0,by omega,rfl,Below.refl _ _,fun j hj=>by omega⟩
  case round =>
   obtain⟨i,hi,rfl,hbw,hall⟩:=hrel
   have HA:=hide hall
   have HB:=hide hbw
   clear hall hbw
   by_cases hil:i<q.length
   ·have j0:(0:Int)≤(i:Int):=by omega
    have j1:(i:Int)<(q.length:Int):=by omega
    have j2:(i:Int)<(p.length:Int):=by omega
    obtain⟨g1,o1,rfl,hc1⟩:=(HP.out.keep (KpI.of_below HB.out)).cellAt (by omega)
    obtain⟨g2,o2,rfl,hc2⟩:=(HQ.out.keep (KpI.of_below HB.out)).cellAt (by omega)
    have x1:=hc1 i (by omega)
    have x2:=hc2 i hil
    clear hc1 hc2
    have HE:Hid ((p.getD i 0=q.getD i 0→∀j,j<i+1→p.getD j 0=q.getD j 0)∧(p.getD i 0≠q.getD i 0→z=false)):=⟨fun h j hj=>by
     by_cases e:j=i
     ·rw[e];exact h
     ·exact HA.out j (by omega),fun h=>by rw[←hz.out];exact pre_not hil h⟩
    generalize p.getD i 0=a at *
    generalize q.getD i 0=b at *
    by_cases hab:a=b
    ·have e1:(a == b)=true:=by simpa using hab
     have HA2:=hide (HE.out.1 hab)
     clear hab
     go_wp2_with fail
     go_region
     all_goals go_wp2
     all_goals go_roundw
     case rel=>exact⟨i+1,by omega,by go_num,HB.out.drew,HA2.out⟩
     case measure=>simp[intOf];omega
    ·obtain rfl:=HE.out.2 hab
     have e1:(a == b)=false:=by simpa using hab
     clear hab
     go_wp2_with fail
     go_region
     all_goals go_wp2
     all_goals go_ret
     all_goals exact⟨rfl,HB.out.drew⟩
   ·obtain rfl:i=q.length:=by omega
    obtain rfl:z=true:=by rw[←hz.out];exact pre_of (by omega) HA.out
    go_wp2
    go_ret
    exact⟨rfl,HB.out⟩
theorem pre_same {p q:List Int}(h:p.length=q.length):q.isPrefixOf p=decide (p=q):=by
 rw[Bool.eq_iff_iff,decide_eq_true_eq,List.isPrefixOf_iff_prefix]
 constructor
 ·intro hp;exact (hp.eq_of_length h.symm).symm
 ·intro e;rw[e];exact List.prefix_refl _
theorem same_any (pa qa:Option Addr)(pc qc:Nat)(p q:List Int)(w:World)(hp:PSl w pa pc p)(hq:PSl w qa qc q)(hl:p.length≤100000)(hm:q.length≤100000) :
  Calls Tryz.prog 88 #[.slice pa p.length pc,.slice qa q.length qc] w fun e w' => e=.returned (.bool (decide (p=q)))∧Below w.heap.size w w' := by
 have HB:=hide (begins_any pa qa pc qc p q w hp hq hl hm)
 clear hp hq
 by_cases hlen:p.length=q.length
 ·rw[pre_same hlen] at HB
  generalize decide (p=q)=z at *
  have i1:((p.length:Int) == (q.length:Int))=true:=by simpa using (by omega:(p.length:Int)=(q.length:Int))
  clear hlen
  go_enter Tryz.func88,Tryz.ntmps88
  go_wp2_with fail
  refine HB.out.mono ?_
  rintro e w1 ⟨rfl,hb⟩
  go_wp2
  go_ret
  exact⟨by simp,hb⟩
 ·rw[show decide (p=q)=false from decide_eq_false (fun e=>hlen (by rw[e]))]
  have i1:((p.length:Int) == (q.length:Int))=false:=beq_false_of_ne (by omega)
  clear hlen
  go_enter Tryz.func88,Tryz.ntmps88
  go_wp2
  go_ret
  exact⟨by simp,Below.refl _ _⟩
def th0:Th:=⟨[],eB,eB,false⟩
theorem flatK_at (k:Nat){css:List (List Value)}(h3:∀c∈css,c.length=k):∀(q j:Nat),q<css.length→j<k→css.flatten[q*k+j]? = (css.getD q [])[j]?:=by
 induction css with
 | nil=>intro q j hq;simp at hq
 | cons c r ih =>
   intro q j hq hj
   have hc:c.length=k:=h3 c (List.mem_cons_self ..)
   cases q with
   | zero=>rw[List.flatten_cons,List.getElem?_append_left (by omega)];simp
   | succ q =>
     rw[List.flatten_cons,List.getElem?_append_right (by rw[Nat.succ_mul];omega),hc,show (q+1)*k+j - k=q*k+j from by rw[Nat.succ_mul];omega,ih (fun c hc=>h3 c (List.mem_cons_of_mem _ hc)) q j (by simpa using hq) hj]
     simp
theorem al_len4 {w:World}{css:List (List Value)}{L:List Th}(h:Al (ThAt w) css L):∀c∈css,c.length=4:=by
 induction h with
 | nil=>intro c hc;cases hc
 | cons h _ ih =>
   intro c hc
   rcases List.mem_cons.1 hc with rfl|hc
   ·obtain⟨_,_,rfl,_⟩:=h;rfl
   ·exact ih c hc
theorem al_thAt {w:World}{css:List (List Value)}{L:List Th}(h:Al (ThAt w) css L)(i:Nat)(hi:i<L.length):ThAt w (css.getD i []) (L.getD i th0):=by
 have hl:=h.len
 have:=h.at i (by omega) hi
 rw[List.getD_eq_getElem?_getD,List.getElem?_eq_getElem (by omega),List.getD_eq_getElem?_getD,List.getElem?_eq_getElem hi]
 exact this
theorem ThRow.cellAt {base:Nat}{w:World}{v:Value}{L:List Th}(h:ThRow base w v L)(i:Nat)(hi:i<L.length) :
  ∃g cap pa pc,v=.slice (some ⟨g,0,none⟩) L.length cap∧PSl w pa pc (L.getD i th0).path∧w.cell? ⟨g,i*4,none⟩=some (.slice pa (L.getD i th0).path.length pc)∧w.cell? ⟨g,i*4+1,none⟩=some (.string (L.getD i th0).value)∧w.cell? ⟨g,i*4+2,none⟩=some (.string (L.getD i th0).hash)∧w.cell? ⟨g,i*4+3,none⟩=some (.bool (L.getD i th0).under):=by
 obtain⟨css,ho,ha⟩:=h
 have hl:=ha.len
 obtain⟨pa,pc,hc,hp⟩:=al_thAt ha i hi
 obtain⟨g,cap,rfl⟩:∃g cap,v=.slice (some ⟨g,0,none⟩) L.length cap:=by
  rcases ho.2 with⟨_,h0⟩|⟨g,c,cur,rfl,_⟩
  ·omega
  ·exact⟨_,_,rfl⟩
 have hat:∀j u,j<4→(css.getD i [])[j]? = some u→w.cell? ⟨g,i*4+j,none⟩=some u:=fun j u hj hu=>by
  have:=ho.cells (g:=g) rfl (i*4+j) u (by rw[flatK_at 4 (al_len4 ha) i j (by omega) hj];exact hu)
  rwa [addr_add,Nat.zero_add] at this
 rw[hc] at hat
 exact⟨g,cap,pa,pc,rfl,hp,hat 0 _ (by decide) rfl,hat 1 _ (by decide) rfl,hat 2 _ (by decide) rfl,hat 3 _ (by decide) rfl⟩
def Short (L:List Th):Prop:=∀x∈L,x.path.length≤128
theorem Short.at {L:List Th}(h:Short L)(i:Nat):(L.getD i th0).path.length≤128:=by
 by_cases hi:i<L.length
 ·rw[List.getD_eq_getElem?_getD,List.getElem?_eq_getElem hi];exact h _ (List.getElem_mem hi)
 ·rw[List.getD_eq_getElem?_getD,List.getElem?_eq_none (by omega)];simp[th0]
def atF (P:List Int)(x:Th):Bool:=decide (x.hash.size=0) && decide (x.path=P)
def atR (L:List Th)(P:List Int):Int:=if L.any (atF P) then (L.findIdx (atF P):Int) else -1
theorem findIdx_eq {α:Type}{f:α→Bool}{L:List α}{z:α}{i:Nat}(hi:i<L.length)(h:f (L.getD i z)=true)(hb:∀j,j<i→f (L.getD j z)=false):L.any f=true∧L.findIdx f=i:=by
 have e:∀j (hj:j<L.length),L.getD j z=L[j]:=fun j hj=>by rw[List.getD_eq_getElem?_getD,List.getElem?_eq_getElem hj];rfl
 rw[e i hi] at h
 refine⟨List.any_eq_true.2 ⟨_,List.getElem_mem hi,h⟩,?_⟩
 rw[List.findIdx_eq hi]
 refine⟨h,fun j hj=>?_⟩
 have:=hb j hj
 rwa [e j (by omega)] at this
theorem any_none {α:Type}{f:α→Bool}{L:List α}{z:α}(hb:∀j,j<L.length→f (L.getD j z)=false):L.any f=false:=by
 rw[List.any_eq_false]
 intro x hx
 obtain⟨j,hj,rfl⟩:=List.getElem_of_mem hx
 have:=hb j hj
 rw[List.getD_eq_getElem?_getD,List.getElem?_eq_getElem hj] at this
 simpa using this
theorem str_empty {b:ByteArray}(h:b.size≠0):b.toList.isEmpty=false:=by
 cases hs:b.toList with
 | nil =>
   exfalso;apply h
   have:b=⟨#[]⟩:=toList_inj (by rw[hs];simp[ByteArray.toList_eq])
   rw[this];rfl
 | cons _ _=>rfl
theorem at_any (base:Nat)(v:Value)(L:List Th)(pa:Option Addr)(pc:Nat)(P:List Int)(w:World)(hr:ThRow base w v L)(hs:Short L)(hL:L.length≤10000000000)(hp:PSl w pa pc P)(hm:P.length≤100000) :
  Calls Tryz.prog 50 #[v,.slice pa P.length pc] w fun e w' => e=.returned (.int .i64 (atR L P))∧Below w.heap.size w w' := by
 obtain⟨ao,cap,rfl⟩:=hr.shape
 obtain⟨R,hR⟩:∃R,Hid (atR L P=R):=⟨_,Eq.refl _⟩
 rw[hR.out]
 have HR:=hide hr
 have HP:=hide hp
 have HS:=hide hs
 clear hr hp hs
 go_enter Tryz.func50,Tryz.ntmps50
 go_wp2_with fail
 go_loopw [5] (fun iv wr=>∃i:Nat,i≤L.length∧iv=.int .i64 (i:Int)∧Below w.heap.size w wr∧∀j,j<i→atF P (L.getD j th0)=false) (fun iv _=>L.length - (intOf iv).toNat)
 case atStart=>exact⟨0,by omega,rfl,Below.refl _ _,fun j hj=>by omega⟩
 case round =>
  obtain⟨i,hi,rfl,hbw,hall⟩:=hrel
  have HA:=hide hall
  have HB:=hide hbw
  clear hall hbw
  by_cases hil:i<L.length
  ·have j0:(0:Int)≤(i:Int):=by omega
   have j1:(i:Int)<(L.length:Int):=by omega
   obtain⟨g,cap', qa,qc,hv,hq,x0,x1,x2,x3⟩:=(HR.out.keep HB.out).cellAt i hil
   obtain⟨rfl,rfl⟩:ao=some ⟨g,0,none⟩∧cap=cap' := by simpa using hv
   have HSm:=hide (same_any qa pa qc pc (L.getD i th0).path P wr hq (HP.out.keep (KpI.of_below HB.out)) (by have:=HS.out.at i;omega) hm)
   have HK:Hid (∀W,Below wr.heap.size wr W→W.cell? ⟨g,i*4+2,none⟩=some (.string (L.getD i th0).hash)):=fun W hW=>(hW.cell (p:=⟨g,i*4+2,none⟩) (World.block_lt_of_cell? wr _ x2)).trans x2
   have HAt:Hid (atF P (L.getD i th0)=(decide ((L.getD i th0).hash.size=0) && decide ((L.getD i th0).path=P))):=rfl
   have HFi:Hid (atF P (L.getD i th0)=true→R=(i:Int)):=fun h=>by
    obtain⟨k1,k2⟩:=findIdx_eq hil h HA.out
    rw[←hR.out];unfold atR;rw[k1,k2];rfl
   generalize hx:L.getD i th0=x at *
   have HX:=hide hx
   clear hx hv hq x1 x3
   go_wp2_with fail
   refine HSm.out.mono ?_
   rintro e w2 ⟨rfl,hb2⟩
   have y2:=HK.out w2 hb2
   have HB2:Hid (Below w.heap.size w w2):=HB.out.trans (hb2.mono HB.out.size)
   clear hb2 x0 x2
   by_cases hh:x.hash.size=0
   ·have hem:x.hash=⟨#[]⟩:=empty_of_size hh
    rw[hem] at y2
    by_cases hpp:x.path=P
    ·have ht:atF P x=true:=by rw[HAt.out,decide_eq_true hh,decide_eq_true hpp];rfl
     obtain rfl:=HFi.out ht
     rw[decide_eq_true hpp]
     clear ht hem hh hpp
     go_wp2
     go_ret
     exact⟨by simp,HB2.out⟩
    ·have HF:Hid (∀j,j<i+1→atF P (L.getD j th0)=false):=fun j hj=>by
      by_cases e:j=i
      ·rw[e,HX.out,HAt.out,decide_eq_false hpp];simp
      ·exact HA.out j (by omega)
     rw[decide_eq_false hpp]
     clear hem hh hpp
     go_wp2
     go_roundw
     case rel=>exact⟨i+1,by omega,by go_num,HB2.out,HF.out⟩
     case measure=>simp[intOf];omega
   ·have hne:=str_empty hh
    have HF:Hid (∀j,j<i+1→atF P (L.getD j th0)=false):=fun j hj=>by
     by_cases e:j=i
     ·rw[e,HX.out,HAt.out,decide_eq_false hh];rfl
     ·exact HA.out j (by omega)
    generalize decide (x.path=P)=z at *
    clear hh
    go_wp2
    go_roundw
    case rel=>exact⟨i+1,by omega,by go_num,HB2.out,HF.out⟩
    case measure=>simp[intOf];omega
  ·obtain rfl:i=L.length:=by omega
   obtain rfl:R = -1:=by rw[←hR.out];unfold atR;rw[any_none HA.out];rfl
   go_wp2
   go_ret
   exact⟨by simp,HB.out⟩
def ThRd (w:World)(v:Value)(L:List Th):Prop:=∃css,Reads w v L.length css.flatten∧Al (ThAt w) css L
theorem ThRow.rd {base:Nat}{w:World}{v:Value}{L:List Th}(h:ThRow base w v L):ThRd w v L:=by
 obtain⟨css,h1,h2⟩:=h
 exact⟨css,own_reads h1,h2⟩
theorem wpList_append_rd {ops:Array Oper}{rest:List Oper}{o:Oper}{a:Act}{Q:Exit→Act→World→Prop}{w:World}(hgd:o.guard=none)(s x:Operand)
  (ho:o.op=.call { callee:=.builtin .append,args:=#[s,x],argTypes:=#[75,75] })
  (base:Nat) (v:Value) (L:List Th) (hs:a.eval s=v) (h1:ThRow base w v L) (sv:Value) (M:List Th) (hx:a.eval x=sv) (h2:ThRd w sv M) (hl:L.length+M.length≤1000000000000) (hb:base≤w.heap.size)
  (h:∀v' w', ThRow base w' v' (L++M)→w.grownBy w' v.ownBlock→(∀k,v.ownBlock=some k→base≤k)→KpI w w' → wpList Tryz.prog ops Q rest (a.put o.dst v') w'):wpList Tryz.prog ops Q (o :: rest) a w:=by
 obtain⟨i0,hi,hz0,hz1,hz2⟩:=info_parts infoTh
 obtain⟨css1,o1,a1⟩:=h1
 obtain⟨css2,o2,a2⟩:=h2
 refine wpList_append_reads hgd s x _ ho base 118 i0 _ 4 64 Tryz.underlying75 hi hz0 hz1 hz2 rfl (by decide) v L.length _ hs o1 sv M.length _ hx o2 (al_things a2).1 (al_things a2).2 (by unfold maxLen;omega) (by omega) hb ?_
 intro v' w' ho' hg
 have hk:KpI w w' := KpI.of_grown o1 (by decide) hg
 refine h v' w' ⟨css1++css2,?_,(a1.append a2).mono (fun _ _ h=>h.keep hk)⟩ hg (own_ge o1 (Nat.le_refl _)) hk
 rw[List.length_append,List.flatten_append]
 exact ho'
theorem Al.take {α β:Type}{R:α→β→Prop}{l:List α}{m:List β}(h:Al R l m)(n:Nat):Al R (l.take n) (m.take n):=by
 induction h generalizing n with
 | nil=>simp;exact .nil
 | cons h _ ih =>
   cases n with
   | zero=>exact .nil
   | succ n=>exact .cons h (ih n)
theorem Al.drop {α β:Type}{R:α→β→Prop}{l:List α}{m:List β}(h:Al R l m)(n:Nat):Al R (l.drop n) (m.drop n):=by
 induction h generalizing n with
 | nil=>simp;exact .nil
 | cons h h2 ih =>
   cases n with
   | zero=>exact .cons h h2
   | succ n=>exact ih n
theorem flat_take (k:Nat):∀{css:List (List Value)} (_:∀c∈css,c.length=k) (n:Nat),(css.take n).flatten=css.flatten.take (n*k)
 | [],_,n=>by simp
 | c :: r,h,0=>by simp
 | c :: r,h,n+1=>by
   have hc:=h c (List.mem_cons_self ..)
   rw[List.take_succ_cons,List.flatten_cons,List.flatten_cons,flat_take k (fun c hc=>h c (List.mem_cons_of_mem _ hc)) n,List.take_append,hc,show (n+1)*k - k=n*k from by rw[Nat.succ_mul];omega,List.take_of_length_le (l:=c) (by rw[hc,Nat.succ_mul];omega)]
theorem flat_drop (k:Nat):∀{css:List (List Value)} (_:∀c∈css,c.length=k) (n:Nat),(css.drop n).flatten=css.flatten.drop (n*k)
 | [],_,n=>by simp
 | c :: r,h,0=>by simp
 | c :: r,h,n+1=>by
   have hc:=h c (List.mem_cons_self ..)
   rw[List.drop_succ_cons,List.flatten_cons,flat_drop k (fun c hc=>h c (List.mem_cons_of_mem _ hc)) n,List.drop_append,hc,show (n+1)*k - k=n*k from by rw[Nat.succ_mul];omega,List.drop_of_length_le (l:=c) (by rw[hc,Nat.succ_mul];omega),List.nil_append]
theorem ThRow.rdTake {base:Nat}{w:World}{g n cap cap' : Nat}{L:List Th}(h:ThRow base w (.slice (some ⟨g,0,none⟩) L.length cap) L)(hn:n≤L.length):ThRd w (.slice (some ⟨g,0,none⟩) n cap') (L.take n):=by
 obtain⟨css,ho,ha⟩:=h
 refine⟨css.take n,?_,ha.take n⟩
 rw[List.length_take,Nat.min_eq_left hn,flat_take 4 (al_len4 ha)]
 refine .inr ⟨⟨g,0,none⟩,cap', rfl,fun j u hu=>?_⟩
 refine ho.cells (g:=g) rfl j u ?_
 rw[List.getElem?_take] at hu
 split at hu
 ·exact hu
 ·cases hu
theorem ThRow.rdDrop {base:Nat}{w:World}{g n cap cap' : Nat}{L:List Th}(h:ThRow base w (.slice (some ⟨g,0,none⟩) L.length cap) L):ThRd w (.slice (some ⟨g,n*4,none⟩) (L.length - n) cap') (L.drop n):=by
 obtain⟨css,ho,ha⟩:=h
 refine⟨css.drop n,?_,ha.drop n⟩
 rw[List.length_drop,flat_drop 4 (al_len4 ha)]
 refine .inr ⟨⟨g,n*4,none⟩,cap', rfl,fun j u hu=>?_⟩
 have:=ho.cells (g:=g) rfl (n*4+j) u (by rw[List.getElem?_drop] at hu;exact hu)
 rw[addr_add] at this ⊢
 rwa [Nat.zero_add] at this
theorem ThRd.none (w:World)(ad:Addr)(cap:Nat):ThRd w (.slice (some ad) 0 cap) []:=⟨[],.inr ⟨ad,cap,rfl,fun j u hu=>by cases hu⟩,.nil⟩
theorem ThRow.capLe {base:Nat}{w:World}{g cap:Nat}{L:List Th}(h:ThRow base w (.slice (some ⟨g,0,none⟩) L.length cap) L):L.length≤cap∧cap≤maxLen:=by
 obtain⟨css,ho,ha⟩:=h
 rcases ho.2 with⟨h,_⟩|⟨g', c,cur,hh,_,_,h1,h2,_⟩
 ·cases h
 ·injection hh with _ _ e;subst e;exact⟨h1,h2⟩
theorem rNone_any (w:World):Calls Tryz.prog 55 #[] w fun e w' => e=.returned (.string root0)∧Below w.heap.size w w' := by
 have HH:=hide (fun W=>rHash_any code0 W (by decide))
 have HC:Hid (root0=hashOf code0):=rfl
 go_enter Tryz.func55,Tryz.ntmps55
 go_wp2_with fail
 refine (HH.out _).mono ?_
 rintro e w1 ⟨rfl,hb⟩
 go_wp2
 go_ret
 exact⟨by rw[HC.out];rfl,hb⟩
def lessI:List Int→List Int→Bool
 | [],[]=>false
 | [],_ :: _=>true
 | _ :: _,[]=>false
 | a :: p,b :: q=>if a=b then lessI p q else decide (a<b)
theorem lessI_at:∀(i:Nat) (p q:List Int),i≤p.length→i≤q.length→(∀j,j<i→p.getD j 0=q.getD j 0)→lessI p q=lessI (p.drop i) (q.drop i)
 | 0,_,_,_,_,_=>by simp
 | i+1,[],_,h,_,_=>by simp at h
 | i+1,_ :: _,[],_,h,_=>by simp at h
 | i+1,a :: p,b :: q,h1,h2,h=>by
   have e:a=b:=by have:=h 0 (by omega);simpa using this
   have ih:=lessI_at i p q (by simpa using h1) (by simpa using h2) (fun j hj=>by have:=h (j+1) (by omega);simpa using this)
   simp only[lessI,e,if_true,List.drop_succ_cons]
   exact ih
theorem lessI_ne {i:Nat}{p q:List Int}(h1:i<p.length)(h2:i<q.length)(h:∀j,j<i→p.getD j 0=q.getD j 0)(hne:p.getD i 0≠q.getD i 0):lessI p q=decide (p.getD i 0 < q.getD i 0):=by
 rw[lessI_at i p q (by omega) (by omega) h,List.drop_eq_getElem_cons h1,List.drop_eq_getElem_cons h2]
 rw[List.getD_eq_getElem?_getD,List.getD_eq_getElem?_getD,List.getElem?_eq_getElem h1,List.getElem?_eq_getElem h2] at hne ⊢
 simp only[Option.getD_some] at hne ⊢
 simp[lessI,hne]
theorem lessI_end {p q:List Int}{i:Nat}(h1:i≤p.length)(h2:i≤q.length)(he:i=p.length∨i=q.length)(h:∀j,j<i→p.getD j 0=q.getD j 0):lessI p q=decide (p.length<q.length):=by
 rw[lessI_at i p q h1 h2 h]
 rcases he with rfl|rfl
 ·rw[List.drop_length]
  cases hd:q.drop p.length with
  | nil=>have:=congrArg List.length hd;simp at this;simp[lessI];omega
  | cons a r=>have:=congrArg List.length hd;simp at this;simp[lessI];omega
 ·rw[List.drop_length]
  cases hd:p.drop q.length with
  | nil=>have:=congrArg List.length hd;simp at this;simp[lessI];omega
  | cons a r=>have:=congrArg List.length hd;simp at this;simp[lessI];omega
theorem less_any (pa qa:Option Addr)(pc qc:Nat)(p q:List Int)(w:World)(hp:PSl w pa pc p)(hq:PSl w qa qc q)(hl:p.length≤100000)(hm:q.length≤100000) :
  Calls Tryz.prog 53 #[.slice pa p.length pc,.slice qa q.length qc] w fun e w' => e=.returned (.bool (lessI p q))∧Below w.heap.size w w' := by
 obtain⟨z,hz⟩:∃z,Hid (lessI p q=z):=⟨_,Eq.refl _⟩
 rw[hz.out]
 have HP:=hide hp
 have HQ:=hide hq
 clear hp hq
 go_enter Tryz.func53,Tryz.ntmps53
 go_wp2_with fail
 go_loopw [5] (fun iv wr=>∃i:Nat,i≤p.length∧i≤q.length∧iv=.int .i64 (i:Int)∧Below w.heap.size w wr∧∀j,j<i→p.getD j 0=q.getD j 0) (fun iv _=>p.length - (intOf iv).toNat)
 case atStart=>exact⟨0,by omega,by omega,rfl,Below.refl _ _,fun j hj=>by omega⟩
 case round =>
  obtain⟨i,hi,hi2,rfl,hbw,hall⟩:=hrel
  have HA:=hide hall
  have HB:=hide hbw
  clear hall hbw
  by_cases hil:i<p.length∧i<q.length
  ·obtain⟨h1,h2⟩:=hil
   have j0:(0:Int)≤(i:Int):=by omega
   have j1:(i:Int)<(q.length:Int):=by omega
   have j2:(i:Int)<(p.length:Int):=by omega
   obtain⟨g1,o1,rfl,hc1⟩:=(HP.out.keep (KpI.of_below HB.out)).cellAt (by omega)
   obtain⟨g2,o2,rfl,hc2⟩:=(HQ.out.keep (KpI.of_below HB.out)).cellAt (by omega)
   have x1:=hc1 i h1
   have x2:=hc2 i h2
   have HK:Hid (∀n,(wr.drewN n).cell? ⟨g1,o1+i,none⟩=some (.int .i64 (p.getD i 0))∧(wr.drewN n).cell? ⟨g2,o2+i,none⟩=some (.int .i64 (q.getD i 0))):=fun n=>⟨x1,x2⟩
   clear hc1 hc2
   have HE:Hid ((p.getD i 0=q.getD i 0→∀j,j<i+1→p.getD j 0=q.getD j 0)∧(p.getD i 0≠q.getD i 0→z=decide (p.getD i 0 < q.getD i 0))):=⟨fun h j hj=>by
    by_cases e:j=i
    ·rw[e];exact h
    ·exact HA.out j (by omega),fun h=>by rw[←hz.out];exact lessI_ne h1 h2 HA.out h⟩
   generalize p.getD i 0=a at *
   generalize q.getD i 0=b at *
   by_cases hab:a=b
   ·have e1:(a == b)=true:=by simpa using hab
    have HA2:=hide (HE.out.1 hab)
    clear hab
    go_wp2_with fail
    go_quiet (fail)
    go_wp2
    go_roundw
    case rel=>exact⟨i+1,by omega,by omega,by go_num,below_drewN HB.out _,HA2.out⟩
    case measure=>simp[intOf];omega
   ·have hzz:=hide (HE.out.2 hab)
    have e1:(a == b)=false:=by simpa using hab
    clear hab
    go_wp2_with fail
    go_quiet (fail)
    go_wp2
    obtain⟨x1,x2⟩:=HK.out nq
    have HB2:=hide (below_drewN HB.out nq)
    generalize wr.drewN nq=W2 at *
    go_quiet (fail)
    go_wp2
    go_ret
    exact⟨by rw[hzz.out];rfl,below_drewN HB2.out _⟩
  ·have HF:Hid (z=decide (p.length<q.length)):=by
    show _=_
    rw[←hz.out];exact lessI_end hi hi2 (by omega) HA.out
   by_cases hp1:i<p.length
   ·obtain rfl:i=q.length:=by omega
    have j2:(q.length:Int)<(p.length:Int):=by omega
    have j3:¬(p.length:Int)<(q.length:Int):=by omega
    have HG:Hid (decide (p.length<q.length)=false):=decide_eq_false (by omega)
    go_wp2
    go_ret
    exact⟨by rw[HF.out,HG.out];rfl,HB.out⟩
   ·obtain rfl:i=p.length:=by omega
    go_wp2
    go_ret
    exact⟨by rw[HF.out];rfl,HB.out⟩
def NoHash (L:List Th):Prop:=∀x∈L,x.hash=⟨#[]⟩
theorem NoHash.at {L:List Th}(h:NoHash L)(i:Nat):(L.getD i th0).hash=⟨#[]⟩:=by
 by_cases hi:i<L.length
 ·rw[List.getD_eq_getElem?_getD,List.getElem?_eq_getElem hi];exact h _ (List.getElem_mem hi)
 ·rw[List.getD_eq_getElem?_getD,List.getElem?_eq_none (by omega)];rfl
theorem along_plain (sv lv:Value)(L:List Th)(base:Nat)(pa:Option Addr)(pc:Nat)(P:List Int)(w:World)(hr:ThRow base w lv L)(hs:Short L)(hn:NoHash L)(hp:PSl w pa pc P)(hP:P.length≤100000)(hL:L.length≤10000000000) :
  Calls Tryz.prog 49 #[sv,lv,.slice pa P.length pc] w fun e w' => e=.returned (.tuple #[lv,.int .i64 0])∧Below w.heap.size w w' := by
 obtain⟨ao,cap,rfl⟩:=hr.shape
 have HR:=hide hr
 have HP:=hide hp
 have HS:=hide hs
 have HN:=hide hn
 clear hr hp hs hn
 go_enter Tryz.func49,Tryz.ntmps49
 go_wp2_with fail
 go_loopw [1,8] (fun lv iv wr=>lv=.slice ao L.length cap∧∃i:Nat,i≤L.length∧iv=.int .i64 (i:Int)∧Below w.heap.size w wr) (fun _ iv _=>L.length - (intOf iv).toNat)
 case atStart=>exact⟨rfl,0,by omega,rfl,Below.refl _ _⟩
 case round =>
  obtain⟨rfl,i,hi,rfl,hbw⟩:=hrel
  have HB:=hide hbw
  clear hbw
  by_cases hil:i<L.length
  ·have j0:(0:Int)≤(i:Int):=by omega
   have j1:(i:Int)<(L.length:Int):=by omega
   obtain⟨g,cap', qa,qc,hv,hq,x0,x1,x2,x3⟩:=(HR.out.keep HB.out).cellAt i hil
   obtain⟨rfl,rfl⟩:ao=some ⟨g,0,none⟩∧cap=cap' := by simpa using hv
   have HBg:=hide (begins_any pa qa pc qc P (L.getD i th0).path wr (HP.out.keep (KpI.of_below HB.out)) hq hP (by have:=HS.out.at i;omega))
   rw[HN.out.at i] at x2
   have HK:Hid (∀W,Below wr.heap.size wr W→W.cell? ⟨g,i*4+2,none⟩=some (.string ⟨#[]⟩)):=fun W hW=>(hW.cell (p:=⟨g,i*4+2,none⟩) (World.block_lt_of_cell? wr _ x2)).trans x2
   generalize L.getD i th0=x at *
   generalize x.path.isPrefixOf P=bg at *
   clear hv hq x1 x3
   go_wp2_with fail
   refine HBg.out.mono ?_
   rintro e w2 ⟨rfl,hb2⟩
   have y2:=HK.out w2 hb2
   have HB2:Hid (Below w.heap.size w w2):=HB.out.trans (hb2.mono HB.out.size)
   clear hb2 x0 x2
   go_wp2
   go_roundw
   case rel=>exact⟨rfl,i+1,by omega,by go_num,HB2.out⟩
   case measure=>simp[intOf];omega
  ·obtain rfl:i=L.length:=by omega
   go_wp2
   go_ret2
   exact⟨rfl,HB.out⟩
def mark1 (x:Th):Th:={ x with under:=true }
theorem marked_plain (base:Nat)(lv:Value)(L:List Th)(w:World)(hr:ThRow base w lv L)(hn:NoHash L)(hL:L.length≤1000000000) :
  Calls Tryz.prog 54 #[lv] w fun e w' => ∃rv,e=.returned rv∧ThRow w.heap.size w' rv (L.map mark1)∧Below w.heap.size w w' := by
 obtain⟨ao,cap,rfl⟩:=hr.shape
 have HR:=hide hr
 have HN:=hide hn
 clear hr hn
 go_enter Tryz.func54,Tryz.ntmps54
 go_wp2_with fail
 go_loopw [3,4] (fun rv iv wr=>∃i:Nat,i≤L.length∧iv=.int .i64 (i:Int)∧ThRow w.heap.size wr rv ((L.take i).map mark1)∧Below w.heap.size w wr) (fun _ iv _=>L.length - (intOf iv).toNat)
 case atStart=>exact⟨0,by omega,rfl,ThRow.nil _ _,Below.refl _ _⟩
 case round =>
  obtain⟨i,hi,rfl,hrow,hbw⟩:=hrel
  have HB:=hide hbw
  have HRow:=hide hrow
  clear hbw hrow
  have j0:(0:Int)≤(i:Int):=by omega
  by_cases hil:i<L.length
  ·have j1:(i:Int)<(L.length:Int):=by omega
   obtain⟨g,cap', qa,qc,hv,hq,x0,x1,x2,x3⟩:=(HR.out.keep HB.out).cellAt i hil
   obtain⟨rfl,rfl⟩:ao=some ⟨g,0,none⟩∧cap=cap' := by simpa using hv
   rw[HN.out.at i] at x2
   have HQ:=hide hq
   have HSn:Hid ((L.take (i+1)).map mark1=(L.take i).map mark1++[mark1 (L.getD i th0)]):=by
    show _=_
    rw[List.take_succ_eq_append_getElem hil,List.map_append,List.getD_eq_getElem?_getD,List.getElem?_eq_getElem hil];rfl
   have HLt:Hid (((L.take i).map mark1).length+1≤1000000000):=by show _≤_;simp;omega
   generalize hx:L.getD i th0=x at *
   obtain⟨W1,hW1⟩:∃W1,(wr.alloc (.cells #[.slice qa x.path.length qc,.string x.value,.string ⟨#[]⟩,.bool x.under] 118)).setCell ⟨wr.heap.size,3,none⟩ (.bool true)=W1:=⟨_,rfl⟩
   have hb1:Below wr.heap.size wr W1:=by rw[←hW1];exact (below_alloc wr _).setCell (p:=⟨wr.heap.size,3,none⟩) (Nat.le_refl _) _
   have hbx:W1.heap[wr.heap.size]? = some (.cells #[.slice qa x.path.length qc,.string x.value,.string ⟨#[]⟩,.bool true] 118 (0,0)):=by
    rw[←hW1]
    exact heap_setCell_same _ _ 3 _ _ (.bool true) (heap_alloc_new wr _)
   have HZ:Hid (W1.heap.size=wr.heap.size+1):=by show _=_;rw[←hW1];simp[World.setCell]
   have y0:=cell_of_row _ _ 0 _ _ (0,0) hbx
   have y1:=cell_of_row _ _ 1 _ _ (0,0) hbx
   have y2:=cell_of_row _ _ 2 _ _ (0,0) hbx
   have y3:=cell_of_row _ _ 3 _ _ (0,0) hbx
   have HB1:=hide hb1
   have HTr:=hide (HRow.out.keep (hb1.trans ((below_alloc W1 (.cells #[.slice qa x.path.length qc,.string x.value,.string ⟨#[]⟩,.bool true] 118)).mono hb1.size)))
   have HRd:Hid (ThRd (W1.alloc (.cells #[.slice qa x.path.length qc,.string x.value,.string ⟨#[]⟩,.bool true] 118)) (.slice (some ⟨W1.heap.size,0,none⟩) 1 1) [mark1 x]):=by
    have hn:=heap_alloc_new W1 (.cells #[.slice qa x.path.length qc,.string x.value,.string ⟨#[]⟩,.bool true] 118)
    refine⟨[[.slice qa x.path.length qc,.string x.value,.string x.hash,.bool true]],.inr ⟨_,1,rfl,fun j u hu=>?_⟩,.cons ⟨qa,qc,rfl,?_⟩ .nil⟩
    ·have hh:x.hash=⟨#[]⟩:=by rw[←hx];exact HN.out.at i
     rw[hh] at hu
     exact World.news_of_block hn j u (by simpa using hu)
    ·exact (HQ.out.keep (KpI.of_below HB1.out)).keep (KpI.of_below (below_alloc _ _))
   clear hb1 hbx hx hq hv
   go_wp2_with fail
   clear hW1
   go_loopw [6] (fun kv wr' => kv=.int .i64 0∧wr' = W1) (fun _ _=>0)
   case atStart=>exact⟨rfl,rfl⟩
   case round =>
    obtain⟨rfl,rfl⟩:=hrel
    have hpos:(0:Int)<(L.length:Int):=by omega
    go_wp2_with (at_builtin;go_must (refine wpList_append_rd rfl (.tmp 52) (.tmp 54) rfl w.heap.size _ _ rfl HTr.out _ [mark1 x] rfl HRd.out (by have:=HLt.out;simp only[List.length_cons,List.length_nil];omega) (by have:=HB.out.size;have:=HB1.out.size;simp;omega) ?_);intro v9 w9 hr9 hg9 ho9 hk9;(have HX9:=hide (And.intro hr9 (And.intro hg9 ho9)));clear hr9 hg9 ho9 hk9)
    have h1:=HB.out.trans (HB1.out.mono HB.out.size)
    have h2:=h1.trans ((below_alloc _ (.cells #[.slice qa x.path.length qc,.string x.value,.string ⟨#[]⟩,.bool true] 118)).mono h1.size)
    refine⟨⟨i+1,by omega,by go_num,?_,h2.grown HX9.out.2.1 h2.size HX9.out.2.2⟩,by simp[intOf];omega⟩
    rw[HSn.out]
    exact HX9.out.1
  ·obtain rfl:i=L.length:=by omega
   have HE:Hid (L.take L.length=L):=List.take_length
   rw[HE.out] at HRow
   go_wp2
   go_ret
   exact⟨_,rfl,HRow.out,HB.out⟩
def insK:List Th→List Int→Nat
 | [],_=>0
 | x :: L,P=>if lessI x.path P=true then insK L P+1 else 0
theorem insK_eq:∀(L:List Th) (P:List Int) (k:Nat),k≤L.length→(∀j,j<k→lessI (L.getD j th0).path P=true)→(k<L.length→lessI (L.getD k th0).path P=false)→insK L P=k
 | [],_,k,h,_,_=>by simp at h;simp[insK,h]
 | x :: L,P,0,_,_,h=>by
   have:=h (by simp)
   simp at this
   simp[insK,this]
 | x :: L,P,k+1,h1,h2,h3=>by
   have e:=h2 0 (by omega)
   simp at e
   have ih:=insK_eq L P k (by simpa using h1) (fun j hj=>by have:=h2 (j+1) (by omega);simpa using this) (fun hk=>by have:=h3 (by simpa using hk);simpa using this)
   simp[insK,e,ih]
def insL (L:List Th)(P:List Int)(v:ByteArray):List Th:=(L.take (insK L P)++[(⟨P,v,⟨#[]⟩,false⟩:Th)]++L.drop (insK L P)).map mark1
def PutPost (L:List Th)(P:List Int)(v:ByteArray)(w:World)(e:Ending)(w' : World):Prop:=∃rv,e=.returned (.tuple #[rv,.int .i64 0])∧ThRow w.heap.size w' rv (insL L P v)∧Below w.heap.size w w'
theorem PSl.th {w:World}{pa:Option Addr}{pc:Nat}{P:List Int}(v:ByteArray)(h:PSl w pa pc P):ThRd (w.alloc (.cells #[.slice pa P.length pc,.string v,.string ⟨#[]⟩,.bool false] 118)) (.slice (some ⟨w.heap.size,0,none⟩) 1 1) [⟨P,v,⟨#[]⟩,false⟩]:=by
 have hn:=heap_alloc_new w (.cells #[.slice pa P.length pc,.string v,.string ⟨#[]⟩,.bool false] 118)
 refine⟨[[.slice pa P.length pc,.string v,.string ⟨#[]⟩,.bool false]],.inr ⟨_,1,rfl,fun j u hu=>?_⟩,.cons ⟨pa,pc,rfl,?_⟩ .nil⟩
 ·exact World.news_of_block hn j u (by simpa using hu)
 ·exact h.keep (KpI.of_below (below_alloc _ _))
theorem insLen (T D:List Th)(x:Th)(h:T.length+D.length<1000000000):([]:List Th).length+T.length≤1000000000000∧(([]:List Th)++T).length + [x].length≤1000000000000∧(([]:List Th)++T++[x]).length+D.length≤1000000000000∧(([]:List Th)++T++[x]++D).length≤1000000000:=by
 refine⟨?_,?_,?_,?_⟩
 ·simp;omega
 ·simp;omega
 ·simp;omega
 ·simp;omega
theorem NoHash.ins {L:List Th}(h:NoHash L)(k:Nat)(P:List Int)(v:ByteArray):NoHash (L.take k++[(⟨P,v,⟨#[]⟩,false⟩:Th)]++L.drop k):=fun x hx=>by
 simp only[List.mem_append,List.mem_singleton] at hx
 rcases hx with (hx|rfl)|hx
 ·exact h x (List.mem_of_mem_take hx)
 ·rfl
 ·exact h x (List.mem_of_mem_drop hx)
theorem put_first (sv:Value)(pa:Option Addr)(pc:Nat)(P:List Int)(v:ByteArray)(w:World)(hp:PSl w pa pc P)(hP:P.length≤100000)(hv:v.size≠0) :
  Calls Tryz.prog 20 #[sv,.slice none 0 0,.slice pa P.length pc,.string v] w (PutPost [] P v w):=by
 have HA:=hide (along_plain sv (.slice none 0 0) [] 0 pa pc P w (ThRow.nil _ _) (fun _ h=>by cases h) (fun _ h=>by cases h) hp hP (by simp))
 have HAt:=hide (fun W (hW:Below w.heap.size w W)=>at_any 0 (.slice none 0 0) [] pa pc P W (ThRow.nil _ _) (fun _ h=>by cases h) (by simp) (hp.keep (KpI.of_below hW)) hP)
 have HR:Hid (atR [] P = -1):=rfl
 rw[HR.out] at HAt
 have hz:v.toList.isEmpty=false:=str_empty hv
 have HM:=hide (fun W (hW:Below w.heap.size w W)=>PSl.th v (hp.keep (KpI.of_below hW)))
 clear hp
 unfold PutPost
 go_enter Tryz.func20,Tryz.ntmps20
 go_wp2_with fail
 refine HA.out.mono ?_
 rintro e w1 ⟨rfl,hb1⟩
 go_wp2_with fail
 refine (HAt.out _ hb1).mono ?_
 rintro e w2 ⟨rfl,hb2⟩
 have HB2:Hid (Below w.heap.size w w2):=hb1.trans (hb2.mono hb1.size)
 clear hb1 hb2
 go_wp2_with fail
 go_loopw [11] (fun kv wr=>kv=.int .i64 0∧wr=w2) (fun _ _=>0)
 case atStart=>exact⟨rfl,rfl⟩
 case round =>
  obtain⟨rfl,rfl⟩:=hrel
  have HTk:Hid (∀W,Below w.heap.size w W→ThRd W (.slice none 0 0) []):=fun W _=>(ThRow.nil 0 W).rd
  have HDr:=HTk
  have HLn:=hide (insLen [] [] ⟨P,v,⟨#[]⟩,false⟩ (by simp))
  have HNo:Hid (NoHash (([]:List Th)++[]++[(⟨P,v,⟨#[]⟩,false⟩:Th)]++[])):=by show NoHash _;intro x hx;simp at hx;rw[hx]
  have HIn:Hid (insK [] P=0):=rfl
  have tok1:True:=trivial
  have tok2:True:=trivial
  go_wp2_with (first
   | (at_builtin;clear tok1;go_must (refine wpList_append_rd rfl _ _ rfl w.heap.size _ _ rfl (ThRow.nil _ _) _ _ rfl (HTk.out _ HB2.out) HLn.out.1 HB2.out.size ?_);intro v3 w3 hr3 hg3 hk3 hkp3;go_must (have HX3:=hide (And.intro hr3 hk3));go_must (have HB3:Hid (Below w.heap.size w w3):=HB2.out.grown hg3 HB2.out.size (fun k e=>by cases e));go_must (have HM3:=hide (HM.out w3 HB3.out));clear hr3 hg3 hk3 hkp3)
   | (at_builtin;clear tok2;go_must (refine wpList_append_rd rfl _ _ rfl w.heap.size _ _ rfl (HX3.out.1.keep (below_alloc _ _)) _ _ rfl HM3.out HLn.out.2.1 (Nat.le_trans HB3.out.size (below_alloc _ _).size) ?_);intro v4 w4 hr4 hg4 hk4 hkp4;go_must (have HX4:=hide (And.intro hr4 hk4));go_must (have HB4:Hid (Below w.heap.size w w4):=(HB3.out.trans ((below_alloc _ _).mono HB3.out.size)).grown hg4 (Nat.le_trans HB3.out.size (below_alloc _ _).size) hk4);clear hr4 hg4 hk4 hkp4)
   | (at_builtin;go_must (refine wpList_append_rd rfl _ _ rfl w.heap.size _ _ rfl HX4.out.1 _ _ rfl (HDr.out _ HB4.out) HLn.out.2.2.1 HB4.out.size ?_);intro v5 w5 hr5 hg5 hk5 hkp5;go_must (have HX5:=hide (And.intro hr5 (HB4.out.grown hg5 HB4.out.size hk5)));clear hr5 hg5 hk5 hkp5)
   | fail)
  refine (marked_plain _ _ _ _ HX5.out.1 (HNo.out) HLn.out.2.2.2).mono ?_
  rintro e w6 ⟨rv,rfl,hr6,hb6⟩
  go_wp2
  go_ret2
  refine⟨rv,rfl,?_,HX5.out.2.trans (hb6.mono HX5.out.2.size)⟩
  unfold insL
  rw[HIn.out]
  exact hr6.base HX5.out.2.size
theorem put_more (sv:Value)(base g cap:Nat)(L:List Th)(pa:Option Addr)(pc:Nat)(P:List Int)(v:ByteArray)(w:World)(hr:ThRow base w (.slice (some ⟨g,0,none⟩) L.length cap) L)(hs:Short L)(hn:NoHash L)(hno:L.any (atF P)=false)(hp:PSl w pa pc P)(hP:P.length≤100000)(hL:L.length<1000000000)(hv:v.size≠0) :
  Calls Tryz.prog 20 #[sv,.slice (some ⟨g,0,none⟩) L.length cap,.slice pa P.length pc,.string v] w (PutPost L P v w):=by
 have HA:=hide (along_plain sv (.slice (some ⟨g,0,none⟩) L.length cap) L base pa pc P w hr hs hn hp hP (by omega))
 have HAt:=hide (fun W (hW:Below w.heap.size w W)=>at_any base (.slice (some ⟨g,0,none⟩) L.length cap) L pa pc P W (hr.keep hW) hs (by omega) (hp.keep (KpI.of_below hW)) hP)
 have HR:Hid (atR L P = -1):=by show _=_;unfold atR;rw[hno];rfl
 rw[HR.out] at HAt
 have hz:v.toList.isEmpty=false:=str_empty hv
 have HM:=hide (fun W (hW:Below w.heap.size w W)=>PSl.th v (hp.keep (KpI.of_below hW)))
 have HRow:=hide hr
 have HS:=hide hs
 have HN:=hide hn
 have HP:=hide hp
 obtain⟨hc1,hc2⟩:=hr.capLe
 unfold maxLen at hc2
 clear hp hr hs hn
 unfold PutPost
 go_enter Tryz.func20,Tryz.ntmps20
 go_wp2_with fail
 refine HA.out.mono ?_
 rintro e w1 ⟨rfl,hb1⟩
 go_wp2_with fail
 refine (HAt.out _ hb1).mono ?_
 rintro e w2 ⟨rfl,hb2⟩
 have HB2:Hid (Below w.heap.size w w2):=hb1.trans (hb2.mono hb1.size)
 clear hb1 hb2
 go_wp2_with fail
 go_loopw [11] (fun kv wr=>∃k:Nat,k≤L.length∧kv=.int .i64 (k:Int)∧Below w.heap.size w wr∧∀j,j<k→lessI (L.getD j th0).path P=true) (fun kv _=>L.length - (intOf kv).toNat)
 case atStart=>exact⟨0,Nat.zero_le _,rfl,HB2.out,fun j hj=>by omega⟩
 case round =>
  obtain⟨k,hk,rfl,hbw,hall⟩:=hrel
  have HA:=hide hall
  have HB:=hide hbw
  clear hall hbw
  have j0:(0:Int)≤(k:Int):=by omega
  have j3:(k:Int)≤(cap:Int):=by omega
  have j4:(L.length:Int)≤(cap:Int):=by omega
  have j5:(k:Int)≤(L.length:Int):=by omega
  have HTk:Hid (∀W,Below w.heap.size w W→ThRd W (.slice (some ⟨g,0,none⟩) k cap) (L.take k)):=fun W hW=>(HRow.out.keep hW).rdTake hk
  have HLn:=hide (insLen (L.take k) (L.drop k) ⟨P,v,⟨#[]⟩,false⟩ (by simp;omega))
  have HNo:Hid (NoHash (([]:List Th)++L.take k++[(⟨P,v,⟨#[]⟩,false⟩:Th)]++L.drop k)):=by show NoHash _;rw[List.nil_append];exact HN.out.ins k P v
  by_cases hil:k<L.length
  ·have j1:(k:Int)<(L.length:Int):=by omega
   have hq0:¬(cap:Int)=(k:Int):=by omega
   have HDr:Hid (∀W,Below w.heap.size w W→ThRd W (.slice (some ⟨g,k*4,none⟩) (L.length - k) (cap - k)) (L.drop k)):=fun W hW=>(HRow.out.keep hW).rdDrop (n:=k) (cap' := cap - k)
   obtain⟨g', cap', qa,qc,hv', hq,x0,x1,x2,x3⟩:=(HRow.out.keep HB.out).cellAt k hil
   obtain⟨rfl,rfl⟩:g=g' ∧ cap=cap' := by simpa using hv'
   have HLs:=hide (less_any qa pa qc pc (L.getD k th0).path P wr hq (HP.out.keep (KpI.of_below HB.out)) (by have:=HS.out.at k;omega) hP)
   obtain⟨z,hz⟩:∃z,Hid (lessI (L.getD k th0).path P=z):=⟨_,Eq.refl _⟩
   rw[hz.out] at HLs
   generalize hx:L.getD k th0=x at *
   have HX:=hide hx
   clear hx hq x1 x2 x3 hv'
   go_wp2_with fail
   refine HLs.out.mono ?_
   rintro e w4 ⟨rfl,hb4⟩
   have HBx:Hid (Below w.heap.size w w4):=HB.out.trans (hb4.mono HB.out.size)
   clear hb4 x0
   cases z with
   | true =>
     go_wp2
     go_roundw
     case rel =>
      refine⟨k+1,by omega,by go_num,HBx.out,fun j hj=>?_⟩
      by_cases e:j=k
      ·rw[e,HX.out];exact hz.out
      ·exact HA.out j (by omega)
     case measure=>simp[intOf];omega
   | false =>
     have HIn:Hid (insK L P=k):=insK_eq L P k hk HA.out (fun _=>by rw[HX.out];exact hz.out)
     have tok1:True:=trivial
     have tok2:True:=trivial
     go_wp2_with (first
      | (at_builtin;clear tok1;go_must (refine wpList_append_rd rfl _ _ rfl w.heap.size _ _ rfl (ThRow.nil _ _) _ _ rfl (HTk.out _ HBx.out) HLn.out.1 HBx.out.size ?_);intro v3 w3 hr3 hg3 hk3 hkp3;go_must (have HX3:=hide (And.intro hr3 hk3));go_must (have HB3:Hid (Below w.heap.size w w3):=HBx.out.grown hg3 HBx.out.size (fun k e=>by cases e));go_must (have HM3:=hide (HM.out w3 HB3.out));clear hr3 hg3 hk3 hkp3)
      | (at_builtin;clear tok2;go_must (refine wpList_append_rd rfl _ _ rfl w.heap.size _ _ rfl (HX3.out.1.keep (below_alloc _ _)) _ _ rfl HM3.out HLn.out.2.1 (Nat.le_trans HB3.out.size (below_alloc _ _).size) ?_);intro v4 w4 hr4 hg4 hk4 hkp4;go_must (have HX4:=hide (And.intro hr4 hk4));go_must (have HB4:Hid (Below w.heap.size w w4):=(HB3.out.trans ((below_alloc _ _).mono HB3.out.size)).grown hg4 (Nat.le_trans HB3.out.size (below_alloc _ _).size) hk4);clear hr4 hg4 hk4 hkp4)
      | (at_builtin;go_must (refine wpList_append_rd rfl _ _ rfl w.heap.size _ _ rfl HX4.out.1 _ _ rfl (HDr.out _ HB4.out) HLn.out.2.2.1 HB4.out.size ?_);intro v5 w5 hr5 hg5 hk5 hkp5;go_must (have HX5:=hide (And.intro hr5 (HB4.out.grown hg5 HB4.out.size hk5)));clear hr5 hg5 hk5 hkp5)
      | fail)
     refine (marked_plain _ _ _ _ HX5.out.1 (HNo.out) HLn.out.2.2.2).mono ?_
     rintro e w6 ⟨rv,rfl,hr6,hb6⟩
     go_wp2
     go_ret2
     refine⟨rv,rfl,?_,HX5.out.2.trans (hb6.mono HX5.out.2.size)⟩
     unfold insL
     rw[HIn.out]
     exact hr6.base HX5.out.2.size
  ·obtain rfl:k=L.length:=by omega
   have HIn:Hid (insK L P=L.length):=insK_eq L P L.length hk HA.out (fun h=>absurd h (by omega))
   have HE:Hid (L.drop L.length=[]):=List.drop_length
   by_cases hcap:cap=L.length
   ·subst hcap
    have HDr:Hid (∀W,Below w.heap.size w W→ThRd W (.slice (some ⟨g,0,none⟩) 0 0) (L.drop L.length)):=fun W _=>by rw[HE.out];exact ThRd.none _ _ _
    have tok1:True:=trivial
    have tok2:True:=trivial
    go_wp2_with (first
     | (at_builtin;clear tok1;go_must (refine wpList_append_rd rfl _ _ rfl w.heap.size _ _ rfl (ThRow.nil _ _) _ _ rfl (HTk.out _ HB.out) HLn.out.1 HB.out.size ?_);intro v3 w3 hr3 hg3 hk3 hkp3;go_must (have HX3:=hide (And.intro hr3 hk3));go_must (have HB3:Hid (Below w.heap.size w w3):=HB.out.grown hg3 HB.out.size (fun k e=>by cases e));go_must (have HM3:=hide (HM.out w3 HB3.out));clear hr3 hg3 hk3 hkp3)
     | (at_builtin;clear tok2;go_must (refine wpList_append_rd rfl _ _ rfl w.heap.size _ _ rfl (HX3.out.1.keep (below_alloc _ _)) _ _ rfl HM3.out HLn.out.2.1 (Nat.le_trans HB3.out.size (below_alloc _ _).size) ?_);intro v4 w4 hr4 hg4 hk4 hkp4;go_must (have HX4:=hide (And.intro hr4 hk4));go_must (have HB4:Hid (Below w.heap.size w w4):=(HB3.out.trans ((below_alloc _ _).mono HB3.out.size)).grown hg4 (Nat.le_trans HB3.out.size (below_alloc _ _).size) hk4);clear hr4 hg4 hk4 hkp4)
     | (at_builtin;go_must (refine wpList_append_rd rfl _ _ rfl w.heap.size _ _ rfl HX4.out.1 _ _ rfl (HDr.out _ HB4.out) HLn.out.2.2.1 HB4.out.size ?_);intro v5 w5 hr5 hg5 hk5 hkp5;go_must (have HX5:=hide (And.intro hr5 (HB4.out.grown hg5 HB4.out.size hk5)));clear hr5 hg5 hk5 hkp5)
     | fail)
    refine (marked_plain _ _ _ _ HX5.out.1 (HNo.out) HLn.out.2.2.2).mono ?_
    rintro e w6 ⟨rv,rfl,hr6,hb6⟩
    go_wp2
    go_ret2
    refine⟨rv,rfl,?_,HX5.out.2.trans (hb6.mono HX5.out.2.size)⟩
    unfold insL
    rw[HIn.out]
    exact hr6.base HX5.out.2.size
   ·have hq0:¬(cap:Int)=(L.length:Int):=by omega
    have HDr:Hid (∀W,Below w.heap.size w W→ThRd W (.slice (some ⟨g,L.length*4,none⟩) 0 (cap - L.length)) (L.drop L.length)):=fun W _=>by rw[HE.out];exact ThRd.none _ _ _
    have tok1:True:=trivial
    have tok2:True:=trivial
    go_wp2_with (first
     | (at_builtin;clear tok1;go_must (refine wpList_append_rd rfl _ _ rfl w.heap.size _ _ rfl (ThRow.nil _ _) _ _ rfl (HTk.out _ HB.out) HLn.out.1 HB.out.size ?_);intro v3 w3 hr3 hg3 hk3 hkp3;go_must (have HX3:=hide (And.intro hr3 hk3));go_must (have HB3:Hid (Below w.heap.size w w3):=HB.out.grown hg3 HB.out.size (fun k e=>by cases e));go_must (have HM3:=hide (HM.out w3 HB3.out));clear hr3 hg3 hk3 hkp3)
     | (at_builtin;clear tok2;go_must (refine wpList_append_rd rfl _ _ rfl w.heap.size _ _ rfl (HX3.out.1.keep (below_alloc _ _)) _ _ rfl HM3.out HLn.out.2.1 (Nat.le_trans HB3.out.size (below_alloc _ _).size) ?_);intro v4 w4 hr4 hg4 hk4 hkp4;go_must (have HX4:=hide (And.intro hr4 hk4));go_must (have HB4:Hid (Below w.heap.size w w4):=(HB3.out.trans ((below_alloc _ _).mono HB3.out.size)).grown hg4 (Nat.le_trans HB3.out.size (below_alloc _ _).size) hk4);clear hr4 hg4 hk4 hkp4)
     | (at_builtin;go_must (refine wpList_append_rd rfl _ _ rfl w.heap.size _ _ rfl HX4.out.1 _ _ rfl (HDr.out _ HB4.out) HLn.out.2.2.1 HB4.out.size ?_);intro v5 w5 hr5 hg5 hk5 hkp5;go_must (have HX5:=hide (And.intro hr5 (HB4.out.grown hg5 HB4.out.size hk5)));clear hr5 hg5 hk5 hkp5)
     | fail)
    refine (marked_plain _ _ _ _ HX5.out.1 (HNo.out) HLn.out.2.2.2).mono ?_
    rintro e w6 ⟨rv,rfl,hr6,hb6⟩
    go_wp2
    go_ret2
    refine⟨rv,rfl,?_,HX5.out.2.trans (hb6.mono HX5.out.2.size)⟩
    unfold insL
    rw[HIn.out]
    exact hr6.base HX5.out.2.size
def cmI:List Int→List Int→Nat
 | a :: p,b :: q=>if a=b then cmI p q+1 else 0
 | _,_=>0
theorem cmI_ge:∀(k:Nat) (p q:List Int),k≤p.length→k≤q.length→(∀j,j<k→p.getD j 0=q.getD j 0)→k≤cmI p q
 | 0,_,_,_,_,_=>Nat.zero_le _
 | k+1,[],_,h,_,_=>by simp at h
 | k+1,_ :: _,[],_,h,_=>by simp at h
 | k+1,a :: p,b :: q,h1,h2,h=>by
   have e:a=b:=by have:=h 0 (by omega);simpa using this
   have ih:=cmI_ge k p q (by simpa using h1) (by simpa using h2) (fun j hj=>by have:=h (j+1) (by omega);simpa using this)
   simp only[cmI,e,if_true]
   omega
theorem cmI_len:∀(p q:List Int),cmI p q≤p.length∧cmI p q≤q.length
 | [],_=>⟨Nat.zero_le _,Nat.zero_le _⟩
 | _ :: _,[]=>⟨Nat.zero_le _,Nat.zero_le _⟩
 | a :: p,b :: q=>by
   obtain⟨h1,h2⟩:=cmI_len p q
   simp only[cmI,List.length_cons]
   split
   ·omega
   ·omega
theorem cmI_ne:∀(k:Nat) (p q:List Int),k<p.length→k<q.length→p.getD k 0≠q.getD k 0→cmI p q≤k
 | 0,[],_,h,_,_=>by simp at h
 | 0,_ :: _,[],_,h,_=>by simp at h
 | 0,a :: p,b :: q,_,_,h=>by
   have e:a≠b:=by simpa using h
   simp[cmI,e]
 | k+1,[],_,h,_,_=>by simp at h
 | k+1,_ :: _,[],_,h,_=>by simp at h
 | k+1,a :: p,b :: q,h1,h2,h=>by
   have ih:=cmI_ne k p q (by simpa using h1) (by simpa using h2) (by simpa using h)
   simp only[cmI]
   split
   ·omega
   ·omega
def shTh:List Th→Nat
 | []=>0
 | x :: r=>r.foldl (fun n y=>min n (cmI y.path x.path)) x.path.length
theorem shTh_take {L:List Th}{i:Nat}(h0:0 < i)(hi:i<L.length):shTh (L.take (i+1))=min (shTh (L.take i)) (cmI (L.getD i th0).path (L.getD 0 th0).path):=by
 cases L with
 | nil=>simp at hi
 | cons x r =>
   obtain⟨k,rfl⟩:∃k,i=k+1:=⟨i - 1,by omega⟩
   have hk:k<r.length:=by simpa using hi
   have e:r.take (k+1)=r.take k++[r[k]]:=List.take_succ_eq_append_getElem hk
   simp only[List.take_succ_cons,shTh]
   rw[e,List.foldl_append]
   simp[hk]
theorem shTh_le {L:List Th}:shTh L≤(L.getD 0 th0).path.length:=by
 cases L with
 | nil=>simp[shTh]
 | cons x r =>
   simp only[shTh,List.getD_cons_zero]
   have:∀(r:List Th) (n:Nat),r.foldl (fun n y=>min n (cmI y.path x.path)) n≤n:=by
    intro r
    induction r with
    | nil=>intro n;exact Nat.le_refl _
    | cons y r ih=>intro n;exact Nat.le_trans (ih _) (Nat.min_le_left _ _)
   exact this _ _
theorem take_getD0 {L:List Th}{i:Nat}(h:0 < i):(L.take i).getD 0 th0=L.getD 0 th0:=by
 cases L with
 | nil=>simp
 | cons x r=>cases i with
   | zero=>omega
   | succ i=>simp
theorem shared_any (base:Nat)(lv:Value)(L:List Th)(w:World)(hr:ThRow base w lv L)(hs:Short L)(h0:0 < L.length)(hL:L.length≤1000000000) :
  Calls Tryz.prog 90 #[lv] w fun e w' => e=.returned (.int .i64 (shTh L:Int))∧Below w.heap.size w w' := by
 obtain⟨g,cap,za,zc,rfl,hz,z0,_,_,_⟩:=hr.cellAt 0 h0
 rw[Nat.zero_mul] at z0
 have HR:=hide hr
 have HS:=hide hs
 have HZ:=hide hz
 have HZ0:Hid (∀W,Below w.heap.size w W→W.cell? ⟨g,0,none⟩=some (.slice za (L.getD 0 th0).path.length zc)):=fun W hW=>(hW.cell (p:=⟨g,0,none⟩) (World.block_lt_of_cell? w _ z0)).trans z0
 have HT1:Hid (shTh (L.take 1)=(L.getD 0 th0).path.length):=by
  show _=_
  cases L with
  | nil=>simp at h0
  | cons x r=>simp[shTh]
 have HTe:Hid (∀i,0 < i→i<L.length→shTh (L.take (i+1))=min (shTh (L.take i)) (cmI (L.getD i th0).path (L.getD 0 th0).path)):=fun i h1 h2=>shTh_take h1 h2
 have HTl:Hid (∀i,0 < i→shTh (L.take i)≤(L.getD 0 th0).path.length):=fun i h1=>by have:=shTh_le (L:=L.take i);rwa [take_getD0 h1] at this
 have HSz:Hid ((L.getD 0 th0).path.length≤128):=HS.out.at 0
 have HTa:Hid (L.take L.length=L):=List.take_length
 generalize L.getD 0 th0=y at *
 clear hr hs hz
 have i0:(0:Int)<(L.length:Int):=by omega
 go_enter Tryz.func90,Tryz.ntmps90
 go_wp2_with fail
 go_loopw [3,4] (fun nv iv wr=>∃i n:Nat,0 < i∧i≤L.length∧iv=.int .i64 (i:Int)∧nv=.int .i64 (n:Int)∧shTh (L.take i)=n∧Below w.heap.size w wr) (fun _ iv _=>L.length - (intOf iv).toNat)
 case atStart=>exact⟨1,_,by omega,by omega,rfl,rfl,HT1.out,Below.refl _ _⟩
 case round =>
  obtain⟨i,n,hi0,hi,rfl,rfl,hsh,hbw⟩:=hrel
  have HB:=hide hbw
  have HSh:=hide hsh
  have HNl:Hid (n≤y.path.length):=by show _≤_;rw[←hsh];exact HTl.out i hi0
  clear hbw hsh
  by_cases hil:i<L.length
  ·have j0:(0:Int)≤(i:Int):=by omega
   have j1:(i:Int)<(L.length:Int):=by omega
   obtain⟨g', cap', qa,qc,hv,hq,x0,_,_,_⟩:=(HR.out.keep HB.out).cellAt i hil
   obtain⟨rfl,rfl⟩:g=g' ∧ cap=cap' := by simpa using hv
   have HX0:Hid (∀W,Below wr.heap.size wr W→W.cell? ⟨g,i*4,none⟩=some (.slice qa (L.getD i th0).path.length qc)):=fun W hW=>(hW.cell (p:=⟨g,i*4,none⟩) (World.block_lt_of_cell? wr _ x0)).trans x0
   have HQ:=hide hq
   have HTi:=hide (HTe.out i hi0 hil)
   have HXs:Hid ((L.getD i th0).path.length≤128):=HS.out.at i
   generalize L.getD i th0=x at *
   clear x0 hq hv
   go_wp2_with fail
   go_loopw [5] (fun kv wr' => ∃k:Nat,k≤n∧k≤x.path.length∧kv=.int .i64 (k:Int)∧Below wr.heap.size wr wr' ∧ ∀j,j<k→x.path.getD j 0=y.path.getD j 0) (fun kv _=>n - (intOf kv).toNat)
   case atStart=>exact⟨0,Nat.zero_le _,Nat.zero_le _,rfl,Below.refl _ _,fun j hj=>by omega⟩
   case round =>
    obtain⟨k,hk,hkx,rfl,hbw,hall⟩:=hrel
    have HB2:=hide hbw
    have HB3:Hid (Below w.heap.size w wr):=HB.out.trans (hbw.mono HB.out.size)
    have HA:=hide hall
    have xi:=HX0.out _ hbw
    have yi:=HZ0.out _ HB3.out
    have k0:(0:Int)≤(k:Int):=by omega
    have kb:k≤128:=by have:=HXs.out;omega
    clear hbw hall
    by_cases h1:k<n
    ·have d1:decide ((k:Int)<(n:Int))=true:=by simp;omega
     by_cases h2:k<x.path.length
     ·have d2:decide ((k:Int)<(x.path.length:Int))=true:=by simp;omega
      have hky:k<y.path.length:=by have:=HNl.out;omega
      have m1:(k:Int)<(x.path.length:Int):=by omega
      have m2:(k:Int)<(y.path.length:Int):=by omega
      obtain⟨g1,o1,rfl,hc1⟩:=(HQ.out.keep (KpI.of_below HB2.out)).cellAt (by omega)
      obtain⟨g2,o2,rfl,hc2⟩:=(HZ.out.keep (KpI.of_below HB3.out)).cellAt (by omega)
      have c1:=hc1 k h2
      have c2:=hc2 k hky
      clear hc1 hc2
      have HE:Hid ((x.path.getD k 0=y.path.getD k 0→∀j,j<k+1→x.path.getD j 0=y.path.getD j 0)∧(x.path.getD k 0≠y.path.getD k 0→shTh (L.take (i+1))=k)):=⟨fun h j hj=>by
       by_cases e:j=k
       ·rw[e];exact h
       ·exact HA.out j (by omega),fun h=>by
       have a1:=cmI_ge k _ _ (by omega) (by omega) HA.out
       have a2:=cmI_ne k _ _ h2 hky h
       rw[HTi.out,HSh.out];omega⟩
      generalize x.path.getD k 0=a at *
      generalize y.path.getD k 0=b at *
      by_cases hab:a=b
      ·have e1:(a == b)=true:=by simpa using hab
       have HA2:=hide (HE.out.1 hab)
       clear hab
       go_wp2_with fail
       go_quiet (fail)
       go_wp2
       go_roundw
       case rel=>exact⟨k+1,by omega,by omega,by go_num,below_drewN HB2.out _,HA2.out⟩
       case measure=>simp[intOf];omega
      ·have e1:(a == b)=false:=by simpa using hab
       have HF:=hide (HE.out.2 hab)
       clear hab
       go_wp2_with fail
       go_quiet (fail)
       go_wp2
       go_roundw
       case rel=>exact⟨i+1,k,by omega,by omega,by go_num,rfl,HF.out,below_drewN HB3.out _⟩
       case measure=>simp[intOf];omega
     ·have d2:decide ((k:Int)<(x.path.length:Int))=false:=by simp;omega
      have HF:Hid (shTh (L.take (i+1))=k):=by
       show _=_
       have a1:=cmI_ge k _ _ (by omega) (by have:=HNl.out;omega) HA.out
       have a2:=(cmI_len x.path y.path).1
       rw[HTi.out,HSh.out];omega
      go_wp2_with fail
      go_quiet (fail)
      go_wp2
      go_roundw
      case rel=>exact⟨i+1,k,by omega,by omega,by go_num,rfl,HF.out,below_drewN HB3.out _⟩
      case measure=>simp[intOf];omega
    ·have d1:decide ((k:Int)<(n:Int))=false:=by simp;omega
     have HF:Hid (shTh (L.take (i+1))=k):=by
      show _=_
      have a1:=cmI_ge k _ _ (by omega) (by have:=HNl.out;omega) HA.out
      rw[HTi.out,HSh.out];omega
     go_wp2_with fail
     go_quiet (fail)
     go_wp2
     go_roundw
     case rel=>exact⟨i+1,k,by omega,by omega,by go_num,rfl,HF.out,below_drewN HB3.out _⟩
     case measure=>simp[intOf];omega
  ·obtain rfl:i=L.length:=by omega
   rw[HTa.out] at HSh
   go_wp2
   go_ret
   exact⟨by rw[HSh.out];rfl,HB.out⟩
def ItO:Nat→World→(Nat→Prop)→List Value→ByteArray→Prop
 | 0,_,_,cs,t=>∃b,txt t=some b∧cs=[.bool false,.string b,.slice none 0 0]
 | r+1,w,ok,cs,t=>(∃b,txt t=some b∧cs=[.bool false,.string b,.slice none 0 0]) ∨
   ∃(v:Value) (css:List (List Value)) (ts:List ByteArray),itemsOf t=some ts∧cs=[.bool true,.string ⟨#[]⟩,v]∧w.ownsRow 0 164 3 v css.length css.flatten∧(∀g,v.ownBlock=some g→ok g)∧Al (ItO r w ok) css ts
theorem ItO.b {w:World}{ok:Nat→Prop}:∀{r:Nat} {cs:List Value} {t:ByteArray},ItO r w ok cs t→ItB r w cs t
 | 0,_,_,h=>h
 | r+1,cs,t,h=>by
   rcases h with h|⟨v,css,ts,h1,h2,h3,_,h4⟩
   ·exact .inl h
   ·exact .inr ⟨v,css,ts,h1,h2,h3,h4.mono (fun _ _ h=>ItO.b h)⟩
theorem ItO.keep {w w' : World}{ok ok' : Nat→Prop}(hk:∀k,ok k→k<w.heap.size→w'.heap[k]? = w.heap[k]?∧ok' k):∀{r:Nat} {cs:List Value} {t:ByteArray},ItO r w ok cs t→ItO r w' ok' cs t
 | 0,_,_,h=>h
 | r+1,cs,t,h=>by
   rcases h with h|⟨v,css,ts,h1,h2,h3,ho,h4⟩
   ·exact .inl h
   ·exact .inr ⟨v,css,ts,h1,h2,own_far h3 (fun g hg hl=>(hk g (ho g hg) hl).1),fun g hg=>(hk g (ho g hg) (own_blk h3 hg)).2,h4.mono (fun _ _ h=>ItO.keep hk h)⟩
theorem itO_of {w:World}{ok:Nat→Prop}:∀{r:Nat} {cs:List Value} {q:List Prt} {t:ByteArray},ItIs r w ok cs q→RdB r t q→ItO r w ok cs t
 | 0,cs,q,t,⟨b,h1,h2⟩,⟨b', h3,h4⟩=>by
   rw[h2] at h4
   simp only[List.cons.injEq,Prod.mk.injEq,and_true,true_and] at h4
   subst h4
   exact⟨b,h3,h1⟩
 | r+1,cs,q,t,h,h' => by
   rcases h with⟨b,h1,h2⟩|⟨v,css,pss,h1,h2,h3,h4,h5,h6⟩
   ·rcases h' with⟨b', h3,h4⟩|⟨ts,qs,_,_,h4⟩
    ·rw[h2] at h4
     simp only[List.cons.injEq,Prod.mk.injEq,and_true,true_and] at h4
     subst h4
     exact .inl ⟨b,h3,h1⟩
    ·rw[h2] at h4
     simp only[List.cons.injEq,Prod.mk.injEq] at h4
     exact absurd h4.1.1 (by decide)
   ·rcases h' with⟨b', _,h7⟩|⟨ts,qs,h7,h8,h9⟩
    ·rw[h6] at h7
     simp only[List.cons.injEq,Prod.mk.injEq] at h7
     exact absurd h7.1.1 (by decide)
    ·rw[h6] at h9
     simp only[List.cons.injEq,Prod.mk.injEq,true_and] at h9
     have hl:=h8.len
     have hfp:∀p∈pss,FullP p:=fun p hp=>by
      obtain⟨i,hi,rfl⟩:=List.getElem_of_mem hp
      have:=h5 i (by omega)
      rw[List.getD_eq_getElem?_getD (l:=pss),List.getElem?_eq_getElem hi] at this
      exact ItIs.full this
     have hfq:∀q∈qs,FullP q:=fun q hq=>by obtain⟨t,_,ht⟩:=al_mem h8 hq;exact RdB.full ht
     have hpq:pss=qs:=flat_uniq (by omega) hfp hfq h9.2
     subst hpq
     refine .inr ⟨v,css,ts,h7,h1,h2,h3,al_of (by omega) (fun i hc ht=>?_)⟩
     have k1:=h5 i hc
     rw[List.getD_eq_getElem?_getD,List.getElem?_eq_getElem hc,List.getD_eq_getElem?_getD,List.getElem?_eq_getElem (by omega)] at k1
     exact itO_of k1 (h8.at i ht (by omega))
theorem ItO.text (r:Nat)(w:World)(ok:Nat→Prop)(b:ByteArray)(h:(textC b).size≤6000):ItO r w ok [.bool false,.string b,.slice none 0 0] (textC b):=by
 cases r with
 | zero=>exact⟨b,txt_of h,rfl⟩
 | succ r=>exact .inl ⟨b,txt_of h,rfl⟩
theorem box3 {w w1:World}{a b c:Value}{T:TypeId}(hb:Below (w.alloc (.cells #[a,b,c] T)).heap.size (w.alloc (.cells #[a,b,c] T)) w1):(∀o,(w1.alloc o).heap[w.heap.size]? = some (.cells #[a,b,c] T (0,0)))∧w1.heap[w.heap.size]? = some (.cells #[a,b,c] T (0,0))∧Below w.heap.size w w1∧¬w1.heap.size=w.heap.size:=by
 have h1:w1.heap[w.heap.size]? = some (.cells #[a,b,c] T (0,0)):=(hb.block w.heap.size (by simp)).trans (heap_alloc_new w _)
 exact⟨fun o=>(Below.heap_alloc _ _ _ (aGe.1 h1).1).trans h1,h1,(below_alloc w _).trans (hb.mono (by simp)),by have:=(aGe.1 h1).1;omega⟩
theorem readO_any (s:ByteArray)(w:World)(h:s.size≤6000)(hc:Can 8 s) :
  Calls Tryz.prog 109 #[.string s] w fun e w' => ∃c0 c1 c2,e=.returned (.tuple #[.agg #[c0,c1,c2],.int .i64 0])∧ItO 8 w' (fun k=>w.heap.size<k) [c0,c1,c2] s∧Below w.heap.size w w' := by
 have hcut:=cut_any s h 8 0 rfl 0 s.size (w.alloc (.cells #[.bool false,.string ⟨#[]⟩,.slice none 0 0] 164)) (Nat.zero_le _) (Nat.le_refl _)
 rw[show s.extract 0 s.size=s from by apply ByteArray.ext;rw[ByteArray.data_extract];exact Array.extract_size] at hcut
 have c1:(s.size:Int)≤6000:=by omega
 obtain⟨q,hq⟩:=hc
 have HQ:=hide hq
 have hres:=(rd_whole s 8 q).2 hq
 rw[hres] at hcut
 have HC:=hide hcut
 clear hcut hres hq
 have hln:decide (((s.size - 0:Nat):Int)<(s.size:Int))=false:=by simp
 go_enter Tryz.func109,Tryz.ntmps109
 go_wp2_with fail
 refine HC.out.mono ?_
 rintro e w1 ⟨c0,c1,c2,rfl,hit,hb⟩
 obtain⟨l0,b0,ao0,lo0,lc0,hsh⟩:=hit.shape
 simp only[List.cons.injEq,and_true] at hsh
 obtain⟨rfl,rfl,rfl⟩:=hsh
 obtain⟨h6,_,hb1,hne⟩:=box3 hb
 have y0:∀o,(w1.alloc o).cell? ⟨w.heap.size,0,none⟩=some (.bool false):=fun o=>cell_of_row _ _ 0 _ _ (0,0) (h6 o)
 have y1:∀o,(w1.alloc o).cell? ⟨w.heap.size,1,none⟩=some (.string ⟨#[]⟩):=fun o=>cell_of_row _ _ 1 _ _ (0,0) (h6 o)
 have y2:∀o,(w1.alloc o).cell? ⟨w.heap.size,2,none⟩=some (.slice none 0 0):=fun o=>cell_of_row _ _ 2 _ _ (0,0) (h6 o)
 have yf:∀o j,(w1.alloc o).frozen? ⟨w.heap.size,j,none⟩=false:=fun o j=>by unfold World.frozen?;simp[h6 o]
 have HB:=hide hb1
 have HIT:=hide hit
 clear h6 hb hit hb1
 go_wp2
 refine bodyPost_ret (v:=.tuple #[.agg #[.bool l0,.string b0,.slice ao0 lo0 lc0],.int .i64 0]) (by simp[results,Tryz.results109,go_sem,y0,y1,y2]) rfl ⟨.bool l0,.string b0,.slice ao0 lo0 lc0,rfl,?_,?_⟩
 ·refine itO_of (HIT.out.keep (fun k hk1 hk=>?_)) HQ.out
  have hkn:w.heap.size<k:=by simp at hk1;omega
  have hkn' : k≠w.heap.size:=by omega
  refine⟨?_,hkn⟩
  rw[Below.heap_setCell _ _ _ _ hkn', Below.heap_setCell _ _ _ _ hkn', Below.heap_setCell _ _ _ _ hkn', Below.heap_alloc _ _ _ hk]
 ·exact (((HB.out.alloc HB.out.size _).setCell (Nat.le_refl _) _).setCell (Nat.le_refl _) _).setCell (Nat.le_refl _) _
def refC (c:ByteArray):ByteArray:=if c.size<32 then c else textC (hashOf c)
theorem item_any (code:ByteArray)(w:World)(hc:code.size<32→Can 8 code)(h6:code.size≤6000)(hh:(textC (hashOf code)).size≤6000) :
  Calls Tryz.prog 92 #[.string code] w fun e w' => ∃l b ao lo lc,e=.returned (.agg #[.bool l,.string b,.slice ao lo lc])∧ItO 8 w' (fun k=>w.heap.size≤k) [.bool l,.string b,.slice ao lo lc] (refC code)∧Below w.heap.size w w' := by
 by_cases h32:code.size<32
 ·have i1:(code.size:Int)<32:=by omega
  have HR:Hid (refC code=code):=if_pos h32
  have HRd:=hide (fun W=>readO_any code W h6 (hc h32))
  rw[HR.out]
  clear hc hh
  go_enter Tryz.func92,Tryz.ntmps92
  go_wp2_with fail
  refine (HRd.out _).mono ?_
  rintro e w1 ⟨c0,c1,c2,rfl,hit,hb⟩
  obtain⟨l,b,ao,lo,lc,hsh⟩:=hit.b.shape
  simp only[List.cons.injEq,and_true] at hsh
  obtain⟨rfl,rfl,rfl⟩:=hsh
  obtain⟨h7,_,hb1,hne⟩:=box3 hb
  have y0:∀o,(w1.alloc o).cell? ⟨w.heap.size,0,none⟩=some (.bool false):=fun o=>cell_of_row _ _ 0 _ _ (0,0) (h7 o)
  have y1:∀o,(w1.alloc o).cell? ⟨w.heap.size,1,none⟩=some (.string ⟨#[]⟩):=fun o=>cell_of_row _ _ 1 _ _ (0,0) (h7 o)
  have y2:∀o,(w1.alloc o).cell? ⟨w.heap.size,2,none⟩=some (.slice none 0 0):=fun o=>cell_of_row _ _ 2 _ _ (0,0) (h7 o)
  have yf:∀o j,(w1.alloc o).frozen? ⟨w.heap.size,j,none⟩=false:=fun o j=>by unfold World.frozen?;simp[h7 o]
  have HB:=hide hb1
  have HIT:=hide hit
  clear h7 hb hit hb1
  go_wp2
  refine bodyPost_ret (v:=.agg #[.bool l,.string b,.slice ao lo lc]) (by simp[results,Tryz.results92,go_sem,y0,y1,y2]) rfl ⟨l,b,ao,lo,lc,rfl,?_,?_⟩
  ·refine HIT.out.keep (fun k hk1 hk=>?_)
   have hkn:w.heap.size<k:=by simp at hk1;omega
   have hkn' : k≠w.heap.size:=by omega
   refine⟨?_,by omega⟩
   rw[Below.heap_setCell _ _ _ _ hkn', Below.heap_setCell _ _ _ _ hkn', Below.heap_setCell _ _ _ _ hkn', Below.heap_alloc _ _ _ hk]
  ·exact (((HB.out.alloc HB.out.size _).setCell (Nat.le_refl _) _).setCell (Nat.le_refl _) _).setCell (Nat.le_refl _) _
 ·have i1:¬(code.size:Int)<32:=by omega
  have HR:Hid (refC code=textC (hashOf code)):=if_neg h32
  have HH:=hide (fun W=>rHash_any code W (by omega))
  have HI:=hide (fun W ok=>ItO.text 8 W ok (hashOf code) hh)
  rw[HR.out]
  clear hc hh
  go_enter Tryz.func92,Tryz.ntmps92
  go_wp2_with fail
  refine (HH.out _).mono ?_
  rintro e w1 ⟨rfl,hb⟩
  obtain⟨_,h7,hb1,hne⟩:=box3 hb
  have y0:w1.cell? ⟨w.heap.size,0,none⟩=some (.bool false):=cell_of_row _ _ 0 _ _ (0,0) h7
  have y1:w1.cell? ⟨w.heap.size,1,none⟩=some (.string ⟨#[]⟩):=cell_of_row _ _ 1 _ _ (0,0) h7
  have y2:w1.cell? ⟨w.heap.size,2,none⟩=some (.slice none 0 0):=cell_of_row _ _ 2 _ _ (0,0) h7
  have yf:∀j,w1.frozen? ⟨w.heap.size,j,none⟩=false:=fun j=>by unfold World.frozen?;simp[h7]
  have HB:=hide hb1
  clear h7 hb hb1
  go_wp2
  refine bodyPost_ret (v:=.agg #[.bool false,.string (hashOf code),.slice none 0 0]) (by simp[results,Tryz.results92,go_sem,y0,y1,y2]) rfl ⟨false,hashOf code,none,0,0,rfl,HI.out _ _,?_⟩
  exact ((HB.out.setCell (Nat.le_refl _) _).setCell (Nat.le_refl _) _).setCell (Nat.le_refl _) _
structure Md where
 path:List Int
 code:ByteArray
 whole:Bool
def MdAt (w:World)(cs:List Value)(x:Md):Prop:=∃ao cap,cs=[.slice ao x.path.length cap,.string x.code,.bool x.whole]∧PSl w ao cap x.path
theorem MdAt.keep {w w' : World}{cs:List Value}{x:Md}(h:MdAt w cs x)(hk:KpI w w'):MdAt w' cs x:=by
 obtain⟨ao,cap,h1,h2⟩:=h;exact⟨ao,cap,h1,h2.keep hk⟩
structure MdRow (base:Nat)(w:World)(v:Value)(L:List Md):Prop where
 held:∃css,w.ownsRow base 168 3 v L.length css.flatten∧Al (MdAt w) css L
theorem MdRow.keep {base:Nat}{w w' : World}{v:Value}{L:List Md}(h:MdRow base w v L)(hb:Below w.heap.size w w'):MdRow base w' v L:=by
 obtain⟨css,h1,h2⟩:=h
 exact⟨css,own_far h1 (fun g _ hg=>hb.block g hg),h2.mono (fun _ _ h=>h.keep (KpI.of_below hb))⟩
theorem MdRow.nil (base:Nat)(w:World):MdRow base w (.slice none 0 0) []:=⟨[],World.ownsRow_nil _ _ _ _,.nil⟩
theorem al_mades {w:World}{css:List (List Value)}{L:List Md}(h:Al (MdAt w) css L):css.flatten.length=L.length*3∧∀u∈css.flatten,u.oneCell' = true:=by
 induction h with
 | nil=>exact⟨rfl,by simp⟩
 | cons h _ ih =>
   obtain⟨ao,cap,rfl,_⟩:=h
   refine⟨by simp only[List.flatten_cons,List.length_append,List.length_cons,List.length_nil,ih.1];omega,?_⟩
   intro u hu
   rw[List.flatten_cons,List.mem_append] at hu
   rcases hu with hu|hu
   ·simp only[List.mem_cons,List.not_mem_nil,or_false] at hu
    rcases hu with rfl|rfl|rfl<;>rfl
   ·exact ih.2 u hu
theorem infoMd:(Tryz.prog.info? 168).map (fun i=>(i.zero,i.size,i.bytes))=some (some (.agg #[.slice none 0 0,.string ⟨#[]⟩,.bool false]),3,48):=by kernel_rfl
theorem wpList_append_md {ops:Array Oper}{rest:List Oper}{o:Oper}{a:Act}{Q:Exit→Act→World→Prop}{w:World}(hgd:o.guard=none)(s x:Operand)
  (ho:o.op=.call { callee:=.builtin .append,args:=#[s,x],argTypes:=#[121,121] })
  (base base2:Nat) (v:Value) (L:List Md) (hs:a.eval s=v) (h1:MdRow base w v L) (sv:Value) (M:List Md) (hx:a.eval x=sv) (h2:MdRow base2 w sv M) (hl:L.length+M.length≤1000000000000) (hb:base≤w.heap.size)
  (h:∀v' w', MdRow base w' v' (L++M)→w.grownBy w' v.ownBlock→(∀k,v.ownBlock=some k→base≤k)→KpI w w' → wpList Tryz.prog ops Q rest (a.put o.dst v') w'):wpList Tryz.prog ops Q (o :: rest) a w:=by
 obtain⟨i0,hi,hz0,hz1,hz2⟩:=info_parts infoMd
 obtain⟨css1,o1,a1⟩:=h1
 obtain⟨css2,o2,a2⟩:=h2
 refine wpList_append_reads hgd s x _ ho base 168 i0 _ 3 48 Tryz.underlying121 hi hz0 hz1 hz2 rfl (by decide) v L.length _ hs o1 sv M.length _ hx (own_reads o2) (al_mades a2).1 (al_mades a2).2 (by unfold maxLen;omega) (by omega) hb ?_
 intro v' w' ho' hg
 have hk:KpI w w' := KpI.of_grown o1 (by decide) hg
 refine h v' w' ⟨css1++css2,?_,(a1.append a2).mono (fun _ _ h=>h.keep hk)⟩ hg (own_ge o1 (Nat.le_refl _)) hk
 rw[List.length_append,List.flatten_append]
 exact ho'
theorem PSl.take {w:World}{ao:Option Addr}{cap:Nat}{p:List Int}(h:PSl w ao cap p)(i:Nat):PSl w ao cap (p.take i):=⟨h.nil,by have:=h.cap;simp;omega,fun hn=>by
 obtain⟨g,o,cur,h1,h2,h3⟩:=h.at' (fun e=>hn (by rw[e];simp))
 refine⟨g,o,cur,h1,h2,fun j hj=>?_⟩
 have hj' : j<p.length∧j<i:=by simp at hj;omega
 rw[h3 j hj'.1]
 simp[List.getD_eq_getElem?_getD,hj'.2]⟩
theorem PSl.drop {w:World}{ao:Option Addr}{cap:Nat}{p:List Int}(h:PSl w ao cap p)(i:Nat):PSl w (ao.map (fun x=>x.add i)) (cap - i) (p.drop i):=⟨fun hn=>by
 have:ao=none:=by cases ao with
  | none=>rfl
  | some a=>cases hn
 rw[h.nil this];omega,by have:=h.cap;simp;omega,fun hn=>by
 obtain⟨g,o,cur,h1,h2,h3⟩:=h.at' (fun e=>hn (by rw[e];simp))
 subst h1
 refine⟨g,o+i,cur,by simp[addr_add],h2,fun j hj=>?_⟩
 have hj' : i+j<p.length:=by simp at hj;omega
 rw[Nat.add_assoc,h3 (i+j) hj']
 simp[List.getD_eq_getElem?_getD,List.getElem?_drop]⟩
theorem rPack_drop {w:World}{ao:Option Addr}{cap:Nat}{p:List Int}(h:PSl w ao cap p)(i:Nat)(leaf:Bool)(hp:isP (p.drop i)=true):Calls Tryz.prog 91 #[.slice (ao.map (fun x=>x.add i)) (p.length - i) (cap - i),.bool leaf] w fun e w' => e=.returned (.tuple #[.string (codeOf leaf (p.drop i)),.int .i64 0])∧Below w.heap.size w w' := by
 have h2:=h.drop i
 have:=rPack_good (ao.map (fun x=>x.add i)) (cap - i) (p.drop i) leaf w h2.ints h2.nil hp
 rwa [List.length_drop] at this
theorem rPack_end {w:World}{ao:Option Addr}{p:List Int}{i:Nat}(hi:p.length=i)(leaf:Bool)(hp:isP (p.drop i)=true):Calls Tryz.prog 91 #[.slice ao (p.length - i) 0,.bool leaf] w fun e w' => e=.returned (.tuple #[.string (codeOf leaf (p.drop i)),.int .i64 0])∧Below w.heap.size w w' := by
 have e:p.drop i=[]:=List.drop_eq_nil_of_le (by omega)
 have:=rPack_good ao 0 (p.drop i) leaf w (.inl e) (fun _=>rfl) hp
 rwa [List.length_drop] at this
theorem code_new (g:Nat)(cells:List Value)(n:Nat)(css:List (List Value))(ts:List ByteArray)(W:World)(ok:Nat→Prop)(hg:W.heap[g]? = some (.cells cells.toArray 164 (0,0)))(hc:css.flatten=cells)(hn:css.length=n)(hm:n≤1000)(hi:Al (ItO 8 W ok) css ts)(ht:totS ts≤6000) :
  Calls Tryz.prog 93 #[.agg #[.bool true,.string ⟨#[]⟩,.slice (some ⟨g,0,none⟩) n n]] W fun e w' => e=.returned (.string (listC ts))∧Below W.heap.size W w' := by
 have hib:Al (ItB 8 W) css ts:=hi.mono (fun _ _ h=>h.b)
 have h3:css.flatten.length=css.length*3:=by
  clear hc hn hg hi ht
  induction hib with
  | nil=>rfl
  | cons h _ ih =>
    have:=h.len3
    rw[List.flatten_cons,List.length_append,ih,this,List.length_cons];omega
 subst hn
 subst hc
 refine codeB_list 8 (codeB_any 8) W _ css ts ⟨h3,.inr ⟨g,css.length,_,rfl,Nat.zero_le _,hg,Nat.le_refl _,by unfold maxLen;omega,by simpa using h3,?_⟩⟩ hib ht
 rw[←h3]
 exact List.take_length
theorem MdRow.one (base:Nat)(w:World)(ao:Option Addr)(cap:Nat)(p:List Int)(c:ByteArray)(b:Bool)(n:Nat)(hn:p.length=n)(hb:base≤w.heap.size)(h:PSl w ao cap p):MdRow base (w.alloc (.cells #[.slice ao n cap,.string c,.bool b] 168)) (.slice (some ⟨w.heap.size,0,none⟩) 1 1) [⟨p,c,b⟩]:=by
 subst hn
 refine⟨[[.slice ao p.length cap,.string c,.bool b]],⟨rfl,.inr ⟨_,1,_,rfl,hb,heap_alloc_new w _,Nat.le_refl _,by decide,rfl,rfl⟩⟩,.cons ⟨ao,cap,rfl,?_⟩ .nil⟩
 exact h.keep (KpI.of_below (below_alloc _ _))
def leafMd (x:Th)(i:Nat):List Md:=[⟨x.path.take i,listC [textC (codeOf true (x.path.drop i)),textC x.value],decide (32≤(listC [textC (codeOf true (x.path.drop i)),textC x.value]).size)⟩]
def NodePost (code:ByteArray)(M:List Md)(w:World)(e:Ending)(w' : World):Prop:=∃mv,e=.returned (.tuple #[.string code,mv])∧MdRow w.heap.size w' mv M∧Below w.heap.size w w'
theorem totS_two (a b:ByteArray)(h:(listC [a,b]).size≤6000):totS [a,b]≤6000:=by
 have h1:=headS_ge 192 (joinB [a,b])
 have h2:(joinB [a,b]).size=totS [a,b]:=joinB_size _
 unfold listC at h
 omega
theorem node_leaf (base:Nat)(lv:Value)(x:Th)(i:Nat)(w:World)(hr:ThRow base w lv [x])(hx:x.path.length≤128)(hh:x.hash=⟨#[]⟩)(hi:i≤x.path.length)(hp:isP (x.path.drop i)=true)(hz:(listC [textC (codeOf true (x.path.drop i)),textC x.value]).size≤6000) :
  Calls Tryz.prog 56 #[lv,.int .i64 (i:Int)] w (NodePost (listC [textC (codeOf true (x.path.drop i)),textC x.value]) (leafMd x i) w):=by
 have hs:Short [x]:=fun y hy=>by rw[List.mem_singleton] at hy;rw[hy];exact hx
 have HSh:=hide (shared_any base lv [x] w hr hs (by simp) (by simp))
 have hsh:shTh [x]=x.path.length:=rfl
 rw[hsh] at HSh
 obtain⟨g,cap,qa,qc,rfl,hq,x0,x1,x2,_⟩:=hr.cellAt 0 (by simp)
 simp only[List.getD_cons_zero,Nat.zero_mul,Nat.zero_add] at hq x0 x1 x2
 rw[hh] at x2
 have HC:Hid (∀W,Below w.heap.size w W→W.cell? ⟨g,0,none⟩=some (.slice qa x.path.length qc)∧W.cell? ⟨g,1,none⟩=some (.string x.value)∧W.cell? ⟨g,2,none⟩=some (.string ⟨#[]⟩)):=fun W hW=>⟨(hW.cell (p:=⟨g,0,none⟩) (World.block_lt_of_cell? w _ x0)).trans x0,(hW.cell (p:=⟨g,1,none⟩) (World.block_lt_of_cell? w _ x1)).trans x1,(hW.cell (p:=⟨g,2,none⟩) (World.block_lt_of_cell? w _ x2)).trans x2⟩
 have hqc:=hq.cap
 have HQ:=hide hq
 have i0:(0:Int)≤(i:Int):=by omega
 have i1:(i:Int)≤(x.path.length:Int):=by omega
 have i2:(x.path.length:Int)≤(qc:Int):=by omega
 have i3:(i:Int)≤(qc:Int):=by omega
 have HTo:=hide (totS_two _ _ hz)
 have HT1:Hid ((textC (codeOf true (x.path.drop i))).size≤6000∧(textC x.value).size≤6000):=by
  have h1:=HTo.out
  simp only[totS_eq,List.map_cons,List.map_nil,List.sum_cons,List.sum_nil] at h1
  show _∧_;omega
 have HLm:Hid (leafMd x i=[⟨x.path.take i,listC [textC (codeOf true (x.path.drop i)),textC x.value],decide (32≤(listC [textC (codeOf true (x.path.drop i)),textC x.value]).size)⟩]):=rfl
 unfold NodePost
 rw[HLm.out]
 have HPk:Hid (∀W,Below w.heap.size w W→(qc=i→Calls Tryz.prog 91 #[.slice qa (x.path.length - i) 0,.bool true] W fun e w' => e=.returned (.tuple #[.string (codeOf true (x.path.drop i)),.int .i64 0])∧Below W.heap.size W w')∧Calls Tryz.prog 91 #[.slice (qa.map (fun x=>x.add i)) (x.path.length - i) (qc - i),.bool true] W fun e w' => e=.returned (.tuple #[.string (codeOf true (x.path.drop i)),.int .i64 0])∧Below W.heap.size W w'):=fun W hW=>⟨fun hqi=>rPack_end (by omega) true hp,rPack_drop (HQ.out.keep (KpI.of_below hW)) i true hp⟩
 generalize codeOf true (x.path.drop i)=cd at *
 generalize hcode:listC [textC cd,textC x.value]=code at *
 have HCo:=hide hcode
 clear hr hs hq x0 x1 x2 hcode
 have hcs:qc=i∨¬qc=i:=by omega
 rcases hcs with hcs|hcs
 all_goals
  go_enter Tryz.func56,Tryz.ntmps56
  go_wp2_with fail
  refine HSh.out.mono ?_
  rintro e w1 ⟨rfl,hb1⟩
  have HB2:=hide (hb1.trans ((below_alloc w1 (.cells #[.bool false,.string ⟨#[]⟩,.slice none 0 0] 164)).mono hb1.size))
  have HZ1:Hid (w.heap.size≤w1.heap.size):=hb1.size
  obtain⟨y0,y1,y2⟩:=HC.out _ HB2.out
  clear hb1
  go_wp2_with fail
  first
   | refine ((HPk.out _ HB2.out).1 hcs).mono ?_
   | refine (HPk.out _ HB2.out).2.mono ?_
  rintro e w2 ⟨rfl,hb2⟩
  clear hcs
  obtain⟨_,k1,k2,k3⟩:=box3 hb2
  have HB3:Hid (Below w.heap.size w w2):=HB2.out.trans (hb2.mono HB2.out.size)
  have HK1:=hide k1
  have k4:w1.heap.size<w2.heap.size:=(aGe.1 k1).1
  have k5:=frozen_of_row _ _ 0 _ _ k1
  have k6:=frozen_of_row _ _ 1 _ _ k1
  have k7:=frozen_of_row _ _ 2 _ _ k1
  have k8:w2.cell? ⟨w1.heap.size,0,none⟩=some (.bool false):=cell_of_row _ _ 0 _ _ (0,0) k1
  have k9:w2.cell? ⟨w1.heap.size,1,none⟩=some (.string ⟨#[]⟩):=cell_of_row _ _ 1 _ _ (0,0) k1
  have k10:w2.cell? ⟨w1.heap.size,2,none⟩=some (.slice none 0 0):=cell_of_row _ _ 2 _ _ (0,0) k1
  obtain⟨z0,z1,z2⟩:=HC.out _ HB3.out
  clear hb2 y0 y1 y2 k1 k2
  go_wp2_with fail
  have h3:Below w.heap.size w (((w2.setCell ⟨w1.heap.size,0,none⟩ (.bool true)).setCell ⟨w1.heap.size,1,none⟩ (.string ⟨#[]⟩)).setCell ⟨w1.heap.size,2,none⟩ (.slice (some ⟨w2.heap.size,0,none⟩) 2 2)):=((HB3.out.setCell (p:=⟨w1.heap.size,0,none⟩) HZ1.out _).setCell (p:=⟨w1.heap.size,1,none⟩) HZ1.out _).setCell (p:=⟨w1.heap.size,2,none⟩) HZ1.out _
  have hz3:(((w2.setCell ⟨w1.heap.size,0,none⟩ (.bool true)).setCell ⟨w1.heap.size,1,none⟩ (.string ⟨#[]⟩)).setCell ⟨w1.heap.size,2,none⟩ (.slice (some ⟨w2.heap.size,0,none⟩) 2 2)).heap.size=w2.heap.size:=by simp[World.setCell]
  generalize (((w2.setCell ⟨w1.heap.size,0,none⟩ (.bool true)).setCell ⟨w1.heap.size,1,none⟩ (.string ⟨#[]⟩)).setCell ⟨w1.heap.size,2,none⟩ (.slice (some ⟨w2.heap.size,0,none⟩) 2 2))=W3 at *
  have hn:=heap_alloc_new W3 (.cells #[.bool false,.string cd,.slice none 0 0,.bool false,.string x.value,.slice none 0 0] 164)
  rw[hz3] at hn
  have HCn:=code_new w2.heap.size [.bool false,.string cd,.slice none 0 0,.bool false,.string x.value,.slice none 0 0] 2 [[.bool false,.string cd,.slice none 0 0],[.bool false,.string x.value,.slice none 0 0]] [textC cd,textC x.value] _ (fun _=>True) hn rfl rfl (by decide) (.cons (ItO.text 8 _ _ _ HT1.out.1) (.cons (ItO.text 8 _ _ _ HT1.out.2) .nil)) HTo.out
  rw[HCo.out] at HCn
  refine HCn.mono ?_
  rintro e w5 ⟨rfl,hb5⟩
  have h4:=h3.trans ((below_alloc W3 (.cells #[.bool false,.string cd,.slice none 0 0,.bool false,.string x.value,.slice none 0 0] 164)).mono h3.size)
  have HB5:Hid (Below w.heap.size w w5):=h4.trans (hb5.mono h4.size)
  clear HCn hn h3 h4 hb5 hz3
  obtain⟨y0,y1,y2⟩:=HC.out _ HB5.out
  have HMd:=hide (MdRow.one w.heap.size w5 qa qc (x.path.take i) code (decide (32≤code.size)) i (by simp;omega) HB5.out.size ((HQ.out.keep (KpI.of_below HB5.out)).take i))
  have HDc:Hid (decide (32≤code.size)=decide ((32:Int)≤(code.size:Int))):=by show _=_;rw[decide_eq_decide];omega
  rw[HDc.out] at HMd
  clear k3 k4 k5 k6 k7 k8 k9 k10 z0 z1 z2
  go_wp2_with (at_builtin;go_must (refine wpList_append_md rfl _ _ rfl w.heap.size 0 _ _ rfl HMd.out _ [] rfl (MdRow.nil _ _) (by simp) (Nat.le_trans HB5.out.size (below_alloc _ _).size) ?_);intro v6 w6 hr6 hg6 hk6 hkp6;go_must (have HX6:=hide (And.intro hr6 (Below.grown (HB5.out.trans ((below_alloc _ _).mono HB5.out.size)) hg6 (Nat.le_trans HB5.out.size (below_alloc _ _).size) hk6)));clear hr6 hg6 hk6 hkp6)
  go_ret2
  refine⟨v6,rfl,?_,HX6.out.2⟩
  rw[HDc.out]
  exact HX6.out.1
end Go.Proofs.YthdjmldddjljfaaGreatDoor.V
