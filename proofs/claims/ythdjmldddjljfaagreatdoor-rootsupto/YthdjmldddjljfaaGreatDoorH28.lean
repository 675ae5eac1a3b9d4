/-
  OUR OWN.
-/
import Derived.Test.YthdjmldddjljfaaGreatDoorH27
set_option maxHeartbeats 8000000
set_option maxRecDepth 20000
namespace Go.Proofs.YthdjmldddjljfaaGreatDoor.V
structure Hd (c:ByteArray):Prop where
 pos:0 < c.size
 head:∀(s:ByteArray) (a limit:Nat),Stands s c a→a+c.size≤limit→∃l x,hdN s a limit=some (l,x,a+c.size)
theorem headS_pos (mark:Nat)(t:ByteArray):0 < (headS mark t).size:=by
 unfold headS hdr
 rw[ByteArray.size_append,strOfNums_size]
 split
 ·simp;omega
 ·simp;omega
theorem headS_ge (mark:Nat)(t:ByteArray):t.size≤(headS mark t).size:=by
 unfold headS;rw[ByteArray.size_append];omega
theorem headS_tail {s t:ByteArray}{mark a:Nat}(h:Stands s (headS mark t) a):s.extract (a+(headS mark t).size - t.size) (a+(headS mark t).size)=t:=by
 have hz:(headS mark t).size=(strOfNums (hdr mark t.size)).size+t.size:=by unfold headS;rw[ByteArray.size_append]
 have h4:=h.append.2
 have e4:a+(headS mark t).size - t.size=a+(strOfNums (hdr mark t.size)).size:=by omega
 rw[e4]
 exact h4.eq (by omega)
theorem hd_text {b s:ByteArray}{a limit:Nat}(hc:(textC b).size≤6000)(h:Stands s (textC b) a)(hl:a+(textC b).size≤limit):∃x,hdN s a limit=some (false,x,a+(textC b).size)∧s.extract x (a+(textC b).size)=b:=by
 cases ho:ownC b with
 | true =>
   have e:textC b=b:=by unfold textC;rw[ho];rfl
   rw[e] at h hl ⊢
   have h1:b.size=1∧byteN b 0 < 128:=by simpa[ownC] using ho
   have h2:=h.2 0 (by omega)
   rw[Nat.add_zero] at h2
   refine⟨a,?_,?_⟩
   ·unfold hdN
    rw[if_neg (by omega),if_pos (by rw[h2];exact h1.2),h1.1]
   ·exact h.eq rfl
 | false =>
   have e:textC b=headS 128 b:=by unfold textC;rw[ho];rfl
   rw[e] at h hl hc ⊢
   have hp:=headS_pos 128 b
   obtain⟨z,h1,h2,h3⟩:=span_of 128 s b a limit h hl (by have:=headS_ge 128 b;omega) (by omega)
   have ez:byteN s a - 128=z:=by omega
   have hx:=headS_tail h
   refine⟨a+(headS 128 b).size - b.size,?_,hx⟩
   unfold hdN
   rw[if_neg (by omega),if_neg (by omega),if_pos (by omega),ez,h3,if_neg (by simp),hx,ho]
   simp
theorem textC_pos (b:ByteArray):0 < (textC b).size:=by
 cases ho:ownC b with
 | true =>
   have e:textC b=b:=by unfold textC;rw[ho];rfl
   have h1:b.size=1∧byteN b 0 < 128:=by simpa[ownC] using ho
   rw[e];omega
 | false =>
   have e:textC b=headS 128 b:=by unfold textC;rw[ho];rfl
   rw[e];exact headS_pos _ _
theorem Hd.text {b:ByteArray}(hc:(textC b).size≤6000):Hd (textC b):=⟨textC_pos b,fun s a limit h hl=>by
 obtain⟨x,h1,_⟩:=hd_text hc h hl
 exact⟨false,x,h1⟩⟩
theorem hd_list {ts:List ByteArray}{s:ByteArray}{a limit:Nat}(hc:(listC ts).size≤6000)(h:Stands s (listC ts) a)(hl:a+(listC ts).size≤limit):hdN s a limit=some (true,a+(listC ts).size - (joinB ts).size,a+(listC ts).size):=by
 unfold listC at h hl hc ⊢
 have hp:=headS_pos 192 (joinB ts)
 obtain⟨z,h1,h2,h3⟩:=span_of 192 s (joinB ts) a limit h hl (by have:=headS_ge 192 (joinB ts);omega) (by omega)
 have ez:byteN s a - 192=z:=by omega
 unfold hdN
 rw[if_neg (by omega),if_neg (by omega),if_neg (by omega),ez,h3,if_neg (by simp)]
theorem Hd.list {ts:List ByteArray}(hc:(listC ts).size≤6000):Hd (listC ts):=⟨headS_pos _ _,fun _ _ _ h hl=>⟨_,_,hd_list hc h hl⟩⟩
theorem txt_of {b:ByteArray}(hc:(textC b).size≤6000):txt (textC b)=some b:=by
 obtain⟨x,h1,h2⟩:=hd_text hc (Stands.whole (textC b)) (by omega:0+(textC b).size≤(textC b).size)
 rw[Nat.zero_add] at h1 h2
 unfold txt
 rw[h1]
 simp[h2]
theorem cuts_of {s:ByteArray}{e:Nat}:∀(ts:List ByteArray) (m a:Nat),(∀t∈ts,Hd t)→Stands s (joinB ts) a→a+(joinB ts).size=e→e - a≤m→cutsN s e m a=some ts
 | [],m,a,_,_,he,_=>by
   have h0:(joinB []).size=0:=rfl
   cases m with
   | zero=>rfl
   | succ m=>unfold cutsN;rw[if_neg (by omega)]
 | t :: ts,m,a,hh,hst,he,hm=>by
   have ht:=hh t (List.mem_cons_self ..)
   have hp:=ht.pos
   rw[joinB_cons] at hst he
   obtain⟨h1,h2⟩:=hst.append
   have hsz:(t++joinB ts).size=t.size+(joinB ts).size:=ByteArray.size_append
   cases m with
   | zero=>omega
   | succ m =>
     obtain⟨l,x,hd⟩:=ht.head s a e h1 (by omega)
     unfold cutsN
     rw[if_pos (by omega),hd]
     simp only
     rw[cuts_of ts m (a+t.size) (fun u hu=>hh u (List.mem_cons_of_mem _ hu)) h2 (by omega) (by omega),h1.eq rfl]
     rfl
theorem items_of {ts:List ByteArray}(hh:∀t∈ts,Hd t)(hc:(listC ts).size≤6000):itemsOf (listC ts)=some ts:=by
 have h1:=hd_list hc (Stands.whole (listC ts)) (by omega:0+(listC ts).size≤(listC ts).size)
 rw[Nat.zero_add] at h1
 unfold itemsOf
 rw[h1]
 simp only[if_true]
 have hst:Stands (listC ts) (joinB ts) ((listC ts).size - (joinB ts).size):=by
  have h:=(Stands.whole (listC ts))
  have h2:Stands (listC ts) (headS 192 (joinB ts)) 0:=h
  have h3:=h2.append.2
  have hz:(listC ts).size=(strOfNums (hdr 192 (joinB ts).size)).size+(joinB ts).size:=by unfold listC headS;rw[ByteArray.size_append]
  have e:(listC ts).size - (joinB ts).size=0+(strOfNums (hdr 192 (joinB ts).size)).size:=by omega
  rw[e];exact h3
 have hge:(joinB ts).size≤(listC ts).size:=headS_ge _ _
 exact cuts_of ts _ _ hh hst (by omega) (by omega)
end Go.Proofs.YthdjmldddjljfaaGreatDoor.V
namespace Go.Proofs.YthdjmldddjljfaaGreatDoor.V
open Go.RowKit
attribute [local go_sem ↓] Go.wp_at_zero Go.wp_at_succ
def ItIs:Nat→World→(Nat→Prop)→List Value→List Prt→Prop
 | 0,_,_,cs,ps=>∃b:ByteArray,cs=[.bool false,.string b,.slice none 0 0]∧ps=[(false,0,b)]
 | r+1,w,ok,cs,ps=>(∃b:ByteArray,cs=[.bool false,.string b,.slice none 0 0]∧ps=[(false,0,b)]) ∨
   ∃(v:Value) (css:List (List Value)) (pss:List (List Prt)),cs=[.bool true,.string ⟨#[]⟩,v]∧w.ownsRow 0 164 3 v css.length css.flatten∧(∀g,v.ownBlock=some g→ok g) ∧
    css.length=pss.length∧(∀i,i<css.length→ItIs r w ok (css.getD i []) (pss.getD i []))∧ps=(true,css.length,⟨#[]⟩) :: pss.flatten
theorem ItIs.text (r:Nat)(w:World)(ok:Nat→Prop)(b:ByteArray):ItIs r w ok [.bool false,.string b,.slice none 0 0] [(false,0,b)]:=by
 cases r with
 | zero=>exact⟨b,rfl,rfl⟩
 | succ r=>exact .inl ⟨b,rfl,rfl⟩
theorem ItIs.keep {w w' : World}{ok ok' : Nat→Prop}(hk:∀k,ok k→k<w.heap.size→w'.heap[k]? = w.heap[k]?∧ok' k):∀{r:Nat} {cs:List Value} {ps:List Prt},ItIs r w ok cs ps→ItIs r w' ok' cs ps
 | 0,_,_,h=>h
 | r+1,cs,ps,h=>by
   rcases h with h|⟨v,css,pss,h1,h2,h3,h4,h5,h6⟩
   ·exact .inl h
   ·have hlt:∀g,v.ownBlock=some g→g<w.heap.size:=by
     intro g e
     rcases h2.2 with⟨rfl,_⟩|⟨g', c,cur,rfl,_,hg,_⟩
     ·cases e
     ·obtain rfl:g' = g:=by simpa[Value.ownBlock] using e
      rcases Nat.lt_or_ge g' w.heap.size with h1|h1
      ·exact h1
      ·rw[Array.getElem?_eq_none h1] at hg;cases hg
    exact .inr ⟨v,css,pss,h1,own_far h2 (fun g e hg=>(hk g (h3 g e) hg).1),fun g e=>(hk g (h3 g e) (hlt g e)).2,h4,fun i hi=>ItIs.keep hk (h5 i hi),h6⟩
def it0:Value:=.agg #[.bool false,.string ⟨#[]⟩,.slice none 0 0]
def CutPost (r:Nat)(res:Except Int (List Prt×Nat))(a:Nat)(w:World)(e:Ending)(w' : World):Prop :=
 match res with
 | .error x=>e=.returned (.tuple #[it0,.int .i64 0,.int .i64 x])∧Below w.heap.size w w'
 | .ok (ps,en)=>∃c0 c1 c2,e=.returned (.tuple #[.agg #[c0,c1,c2],.int .i64 ((en - a:Nat):Int),.int .i64 0])∧ItIs r w' (fun k=>w.heap.size≤k) [c0,c1,c2] ps∧Below w.heap.size w w'
theorem cut_empty (d:Nat)(w:World) :
  Calls Tryz.prog 132 #[.string ⟨#[]⟩,.int .i64 (d:Int)] w fun e w' => e=.returned (.tuple #[it0,.int .i64 0,.int .i64 3])∧Below w.heap.size w w' := by
 go_enter Tryz.func132,Tryz.ntmps132
 go_wp2
 refine bodyPost_ret (v:=.tuple #[it0,.int .i64 0,.int .i64 3]) (by simp[results,Tryz.results132,go_sem,it0]) rfl ⟨rfl,?_⟩
 exact below_alloc _ _
theorem cut_own (t:ByteArray)(d:Nat)(w:World)(h0:0 < t.size)(hb:byteN t 0 < 128) :
  Calls Tryz.prog 132 #[.string t,.int .i64 (d:Int)] w fun e w' => e=.returned (.tuple #[.agg #[.bool false,.string (t.extract 0 1),.slice none 0 0],.int .i64 1,.int .i64 0])∧Below w.heap.size w w' := by
 have HB:=hide (byteN_eq t 0 h0)
 have h3:(t[0].toNat:Int)<128:=by rw[HB.out];omega
 have b2:(0:Int)<(t.size:Int):=by omega
 have b3:((t.size:Int) == 0)=false:=beq_false_of_ne (by omega)
 clear hb
 go_enter Tryz.func132,Tryz.ntmps132
 go_wp2
 refine bodyPost_ret (v:=.tuple #[.agg #[.bool false,.string (t.extract 0 1),.slice none 0 0],.int .i64 1,.int .i64 0]) (by simp[results,Tryz.results132,go_sem]) rfl ⟨rfl,?_⟩
 exact below_alloc _ _
theorem cut_textE (t:ByteArray)(d z:Nat)(w:World)(h0:0 < t.size)(ht:t.size≤6000)(hb:byteN t 0=128+z)(hz:z≤63)(er:Int)(her:er≠0)(hsp:spanN t 0 z t.size=((0,0),er)) :
  Calls Tryz.prog 132 #[.string t,.int .i64 (d:Int)] w fun e w' => e=.returned (.tuple #[it0,.int .i64 0,.int .i64 er])∧Below w.heap.size w w' := by
 have HB:=hide (byteN_eq t 0 h0)
 have h3:(t[0].toNat:Int)=128+(z:Int):=by rw[HB.out];omega
 have HS:Hid (∀W,Calls Tryz.prog 153 #[.string t,.int .i64 (128+(z:Int) - 128)] W fun e w' => e=.returned (.tuple #[.int .i64 0,.int .i64 0,.int .i64 er])∧w' = W):=by
  intro W
  have h:=span_any t z W ht hz
  rw[hsp] at h
  rwa [show (z:Int)=128+(z:Int) - 128 from by omega] at h
 have b2:(0:Int)<(t.size:Int):=by omega
 have b3:((t.size:Int) == 0)=false:=beq_false_of_ne (by omega)
 have b4:(z:Int)≤63:=by omega
 have b5:(0:Int)≤(z:Int):=by omega
 have e1:(er == 0)=false:=beq_false_of_ne her
 have e2:(er != 0)=true:=by simpa using her
 clear hb hsp hz her
 go_enter Tryz.func132,Tryz.ntmps132
 go_wp2_with fail
 refine (HS.out _).mono ?_
 rintro e w1 ⟨rfl,rfl⟩
 go_wp2
 refine bodyPost_ret (v:=.tuple #[it0,.int .i64 0,.int .i64 er]) (by simp[results,Tryz.results132,go_sem,it0]) rfl ⟨rfl,?_⟩
 exact below_alloc _ _
theorem cut_textF (t:ByteArray)(d:Nat)(w:World)(h0:0 < t.size)(ht:t.size≤6000)(hb:byteN t 0=128+1)(h2:2≤t.size)(hf:byteN t 1 < 128)(hsp:spanN t 0 1 t.size=((1,2),0)) :
  Calls Tryz.prog 132 #[.string t,.int .i64 (d:Int)] w fun e w' => e=.returned (.tuple #[it0,.int .i64 0,.int .i64 4])∧Below w.heap.size w w' := by
 have HB:=hide (byteN_eq t 0 h0)
 have h3:(t[0].toNat:Int)=129:=by rw[HB.out];omega
 have HS:Hid (∀W,Calls Tryz.prog 153 #[.string t,.int .i64 (129 - 128)] W fun e w' => e=.returned (.tuple #[.int .i64 (1:Nat),.int .i64 (2:Nat),.int .i64 0])∧w' = W):=by
  intro W
  have h:=span_any t 1 W ht (by omega)
  rw[hsp] at h
  rwa [show ((1:Nat):Int)=129 - 128 from by omega] at h
 have b2:(0:Int)<(t.size:Int):=by omega
 have b3:((t.size:Int) == 0)=false:=beq_false_of_ne (by omega)
 have h11:1 < t.size:=by omega
 have HB1:=hide (byteN_eq t 1 h11)
 have b6:(1:Int)<(t.size:Int):=by omega
 have b7:(t[1].toNat:Int)<128:=by rw[HB1.out];omega
 clear hb hsp
 go_enter Tryz.func132,Tryz.ntmps132
 go_wp2_with fail
 refine (HS.out _).mono ?_
 rintro e w1 ⟨rfl,rfl⟩
 go_wp2
 refine bodyPost_ret (v:=.tuple #[it0,.int .i64 0,.int .i64 4]) (by simp[results,Tryz.results132,go_sem,it0]) rfl ⟨rfl,?_⟩
 exact below_alloc _ _
theorem cut_textG (t:ByteArray)(d x y:Nat)(w:World)(h0:0 < t.size)(ht:t.size≤6000)(hb:byteN t 0=128+1)(h2:2≤t.size)(hf:128≤byteN t 1)(hxy:x≤y)(hyt:y≤t.size)(hsp:spanN t 0 1 t.size=((x,y),0)) :
  Calls Tryz.prog 132 #[.string t,.int .i64 (d:Int)] w fun e w' => e=.returned (.tuple #[.agg #[.bool false,.string (t.extract x y),.slice none 0 0],.int .i64 (y:Int),.int .i64 0])∧Below w.heap.size w w' := by
 have HB:=hide (byteN_eq t 0 h0)
 have h3:(t[0].toNat:Int)=129:=by rw[HB.out];omega
 have HS:Hid (∀W,Calls Tryz.prog 153 #[.string t,.int .i64 (129 - 128)] W fun e w' => e=.returned (.tuple #[.int .i64 (x:Nat),.int .i64 (y:Nat),.int .i64 0])∧w' = W):=by
  intro W
  have h:=span_any t 1 W ht (by omega)
  rw[hsp] at h
  rwa [show ((1:Nat):Int)=129 - 128 from by omega] at h
 have b2:(0:Int)<(t.size:Int):=by omega
 have b3:((t.size:Int) == 0)=false:=beq_false_of_ne (by omega)
 have h11:1 < t.size:=by omega
 have HB1:=hide (byteN_eq t 1 h11)
 have b6:(1:Int)<(t.size:Int):=by omega
 have c1:(0:Int)≤(x:Int):=by omega
 have c2:(x:Int)≤(y:Int):=by omega
 have c3:(y:Int)≤(t.size:Int):=by omega
 have b7:decide ((t[1].toNat:Int)<128)=false:=by rw[HB1.out];simp;omega
 clear hb hsp
 go_enter Tryz.func132,Tryz.ntmps132
 go_wp2_with fail
 refine (HS.out _).mono ?_
 rintro e w1 ⟨rfl,rfl⟩
 go_wp2
 refine bodyPost_ret (v:=.tuple #[.agg #[.bool false,.string (t.extract x y),.slice none 0 0],.int .i64 (y:Int),.int .i64 0]) (by simp[results,Tryz.results132,go_sem]) rfl ⟨rfl,?_⟩
 exact below_alloc _ _
theorem cut_textK (t:ByteArray)(d z x y:Nat)(w:World)(h0:0 < t.size)(ht:t.size≤6000)(hb:byteN t 0=128+z)(hz:z≤63)(hz1:z≠1)(hxy:x≤y)(hyt:y≤t.size)(hsp:spanN t 0 z t.size=((x,y),0)) :
  Calls Tryz.prog 132 #[.string t,.int .i64 (d:Int)] w fun e w' => e=.returned (.tuple #[.agg #[.bool false,.string (t.extract x y),.slice none 0 0],.int .i64 (y:Int),.int .i64 0])∧Below w.heap.size w w' := by
 have HB:=hide (byteN_eq t 0 h0)
 have h3:(t[0].toNat:Int)=128+(z:Int):=by rw[HB.out];omega
 have HS:Hid (∀W,Calls Tryz.prog 153 #[.string t,.int .i64 (128+(z:Int) - 128)] W fun e w' => e=.returned (.tuple #[.int .i64 (x:Nat),.int .i64 (y:Nat),.int .i64 0])∧w' = W):=by
  intro W
  have h:=span_any t z W ht (by omega)
  rw[hsp] at h
  rwa [show ((z:Nat):Int)=128+(z:Int) - 128 from by omega] at h
 have b2:(0:Int)<(t.size:Int):=by omega
 have b3:((t.size:Int) == 0)=false:=beq_false_of_ne (by omega)
 have c1:(0:Int)≤(x:Int):=by omega
 have c2:(x:Int)≤(y:Int):=by omega
 have c3:(y:Int)≤(t.size:Int):=by omega
 have b4:(z:Int)≤63:=by omega
 have b5:(0:Int)≤(z:Int):=by omega
 have b7:(128+(z:Int) == 129)=false:=beq_false_of_ne (by omega)
 clear hb hsp
 go_enter Tryz.func132,Tryz.ntmps132
 go_wp2_with fail
 refine (HS.out _).mono ?_
 rintro e w1 ⟨rfl,rfl⟩
 go_wp2
 refine bodyPost_ret (v:=.tuple #[.agg #[.bool false,.string (t.extract x y),.slice none 0 0],.int .i64 (y:Int),.int .i64 0]) (by simp[results,Tryz.results132,go_sem]) rfl ⟨rfl,?_⟩
 exact below_alloc _ _
end Go.Proofs.YthdjmldddjljfaaGreatDoor.V
namespace Go.Proofs.YthdjmldddjljfaaGreatDoor.V
open Go.RowKit
theorem infoIt:(Tryz.prog.info? 164).map (fun i=>(i.zero,i.size,i.bytes))=some (some it0,3,48):=by kernel_rfl
structure Ls (r:Nat)(w wr:World)(X:Nat)(lk:Value)(css:List (List Value))(pss:List (List Prt)):Prop where
 blk:wr.heap[X]? = some (.cells #[.bool true,.string ⟨#[]⟩,lk] 164 (0,0))
 own:wr.ownsRow (X+1) 164 3 lk css.length css.flatten
 len:css.length=pss.length
 its:∀i,i<css.length→ItIs r wr (fun k=>X<k∧lk.ownBlock≠some k) (css.getD i []) (pss.getD i [])
 bel:Below w.heap.size w wr
 hX:w.heap.size≤X
theorem Ls.lt {r:Nat}{w wr:World}{X:Nat}{lk:Value}{css:List (List Value)}{pss:List (List Prt)}(h:Ls r w wr X lk css pss):X<wr.heap.size:=by
 rcases Nat.lt_or_ge X wr.heap.size with h1|h1
 ·exact h1
 ·have:=h.blk;rw[Array.getElem?_eq_none h1] at this;cases this
theorem Ls.row_ne {r:Nat}{w wr:World}{X:Nat}{lk:Value}{css:List (List Value)}{pss:List (List Prt)}(h:Ls r w wr X lk css pss):lk.ownBlock≠some X:=by
 intro e
 have:=own_ge h.own (Nat.le_refl _) X e
 omega
theorem Ls.push {r:Nat}{w wr w6 w8:World}{X:Nat}{lk:Value}{css:List (List Value)}{pss:List (List Prt)}{c0 c1 c2:Value}{ps:List Prt}{o1 o2:Obj}{g c:Nat}(h:Ls r w wr X lk css pss)(hb:Below wr.heap.size wr w6)
  (hit:ItIs r w6 (fun k=>wr.heap.size≤k) [c0,c1,c2] ps)
  (ho:w8.ownsRow (X+1) 164 3 (.slice (some ⟨g,0,none⟩) (css.length+1) c) (css.length+1) (css.flatten++[c0,c1,c2])) (hg:((w6.alloc o1).alloc o2).grownBy w8 lk.ownBlock) (hat:lk.ownBlock=some g∨g=((w6.alloc o1).alloc o2).heap.size) :
  w8.cell? ⟨X,2,none⟩=some lk∧w8.frozen? ⟨X,2,none⟩=false∧(∀k,k<wr.heap.size→lk.ownBlock≠some k→w8.heap[k]? = wr.heap[k]?)∧Ls r w (w8.setCell ⟨X,2,none⟩ (.slice (some ⟨g,0,none⟩) (css.length+1) c)) X (.slice (some ⟨g,0,none⟩) (css.length+1) c) (css++[[c0,c1,c2]]) (pss++[ps]):=by
 have hs6:=hb.size
 have hXl:=h.lt
 have h6:∀k,k<w6.heap.size→lk.ownBlock≠some k→w8.heap[k]? = w6.heap[k]?:=by
  intro k hk hl
  rw[hg.block k (by simp;omega) (fun e=>hl e.symm),Below.heap_alloc _ o2 k (by simp;omega),Below.heap_alloc _ o1 k hk]
 have hrl:∀k,lk.ownBlock=some k→k<wr.heap.size:=by
  intro k e
  rcases h.own.2 with⟨rfl,_⟩|⟨g', c', cur,rfl,_,hg', _⟩
  ·cases e
  ·obtain rfl:g' = k:=by simpa[Value.ownBlock] using e
   rcases Nat.lt_or_ge g' wr.heap.size with h1|h1
   ·exact h1
   ·rw[Array.getElem?_eq_none h1] at hg';cases hg'
 have h4:w8.heap[X]? = some (.cells #[.bool true,.string ⟨#[]⟩,lk] 164 (0,0)):=by
  rw[h6 X (by omega) h.row_ne,hb.block X hXl];exact h.blk
 have hgX:g≠X:=by
  rintro rfl
  rcases hat with e|e
  ·exact h.row_ne e
  ·simp at e;omega
 have hgo:∀k,k<w6.heap.size→(Value.slice (some ⟨g,0,none⟩) (css.length+1) c).ownBlock=some k→lk.ownBlock=some k:=by
  intro k hk e
  obtain rfl:g=k:=by simpa[Value.ownBlock] using e
  rcases hat with e1|e1
  ·exact e1
  ·simp at e1;omega
 have hset:∀k,k≠X→(w8.setCell ⟨X,2,none⟩ (.slice (some ⟨g,0,none⟩) (css.length+1) c)).heap[k]? = w8.heap[k]?:=fun k hk=>Below.heap_setCell _ _ _ _ hk
 refine⟨by rw[cell_of_row w8 X 2 _ _ (0,0) h4];rfl,by unfold World.frozen?;simp[h4],fun k hk hl=>by rw[h6 k (by omega) hl];exact hb.block k hk,⟨by rw[set_same h4];rfl,?_,by simp[h.len],?_,?_,h.hX⟩⟩
 ·have e:(css++[[c0,c1,c2]]).flatten=css.flatten++[c0,c1,c2]:=by simp
  rw[e,List.length_append]
  refine own_far ho (fun k e _=>hset k ?_)
  obtain rfl:g=k:=by simpa[Value.ownBlock] using e
  exact hgX
 ·intro i hi
  have hbw:=h.bel.size
  by_cases hi2:i<css.length
  ·have e1:(css++[[c0,c1,c2]]).getD i []=css.getD i []:=by rw[List.getD_eq_getElem?_getD,List.getElem?_append_left hi2,←List.getD_eq_getElem?_getD]
   have e2:(pss++[ps]).getD i []=pss.getD i []:=by rw[List.getD_eq_getElem?_getD,List.getElem?_append_left (show i<pss.length from h.len ▸ hi2),←List.getD_eq_getElem?_getD]
   rw[e1,e2]
   refine (h.its i hi2).keep ?_
   rintro k ⟨k1,k3⟩ hk
   refine⟨?_,k1,fun e=>k3 (hgo k (by omega) e)⟩
   rw[hset k (by omega),h6 k (by omega) k3,hb.block k hk]
  ·have hie:i=css.length:=by simp at hi;omega
   have e1:(css++[[c0,c1,c2]]).getD i []=[c0,c1,c2]:=by simp[List.getD_eq_getElem?_getD,hie]
   have e2:(pss++[ps]).getD i []=ps:=by simp[List.getD_eq_getElem?_getD,hie,h.len]
   rw[e1,e2]
   refine hit.keep ?_
   intro k k1 hk
   have hk3:lk.ownBlock≠some k:=fun e=>absurd (hrl k e) (by omega)
   refine⟨?_,by omega,fun e=>hk3 (hgo k hk e)⟩
   rw[hset k (by omega),h6 k hk hk3]
 ·have hbw:=h.bel.size
  have h9:Below w.heap.size w ((w6.alloc o1).alloc o2):=((h.bel.trans (hb.mono hbw)).alloc (by omega) _).alloc (by simp;omega) _
  refine (h9.grown hg (by simp;omega) (fun k e=>?_)).setCell h.hX _
  have:=own_ge h.own (Nat.le_refl _) k e
  have:=h.hX
  omega
theorem ItIs.shape {w:World}{ok:Nat→Prop}{r:Nat}{cs:List Value}{ps:List Prt}(h:ItIs r w ok cs ps):∃(l:Bool) (b:ByteArray) (ao:Option Addr) (lo lc:Nat),cs=[.bool l,.string b,.slice ao lo lc]:=by
 cases r with
 | zero=>obtain⟨b,rfl,_⟩:=h;exact⟨_,_,_,_,_,rfl⟩
 | succ r =>
   rcases h with⟨b,rfl,_⟩|⟨v,css,pss,rfl,ho,_⟩
   ·exact⟨_,_,_,_,_,rfl⟩
   ·rcases ho.2 with⟨rfl,_⟩|⟨g,c,cur,rfl,_⟩
    ·exact⟨_,_,_,_,_,rfl⟩
    ·exact⟨_,_,_,_,_,rfl⟩
theorem Ls.done {r:Nat}{w wr w' : World}{X R:Nat}{lk:Value}{css:List (List Value)}{pss:List (List Prt)}(h:Ls r w wr X lk css pss)(hR:R<X)(hRw:w.heap.size≤R)(hk:∀k,k≠R→w'.heap[k]? = wr.heap[k]?) :
  ItIs (r+1) w' (fun k=>w.heap.size≤k) [.bool true,.string ⟨#[]⟩,lk] ((true,css.length,⟨#[]⟩) :: pss.flatten):=by
 refine .inr ⟨lk,css,pss,rfl,own_far (own_base h.own (Nat.zero_le _)) (fun g e _=>hk g ?_),fun g e=>?_,h.len,fun i hi=>(h.its i hi).keep ?_,rfl⟩
 ·have:=own_ge h.own (Nat.le_refl _) g e;omega
 ·have:=own_ge h.own (Nat.le_refl _) g e;omega
 ·rintro k ⟨k1,_⟩ _
  exact⟨hk k (by omega),by omega⟩
end Go.Proofs.YthdjmldddjljfaaGreatDoor.V
namespace Go.Proofs.YthdjmldddjljfaaGreatDoor.V
open Go.RowKit
attribute [local go_sem ↓] Go.wp_at_zero Go.wp_at_succ
def CutOk (s:ByteArray)(r d:Nat):Prop:=∀(a limit:Nat) (w:World),a≤limit→limit≤s.size →
 Calls Tryz.prog 132 #[.string (s.extract a limit),.int .i64 (d:Int)] w fun e w' => CutPost r (readN s r a limit) a w e w'
theorem cut_listE (t:ByteArray)(d z:Nat)(w:World)(h0:0 < t.size)(ht:t.size≤6000)(hb:byteN t 0=192+z)(hz:z≤63)(er:Int)(her:er≠0)(hsp:spanN t 0 z t.size=((0,0),er)) :
  Calls Tryz.prog 132 #[.string t,.int .i64 (d:Int)] w fun e w' => e=.returned (.tuple #[it0,.int .i64 0,.int .i64 er])∧Below w.heap.size w w' := by
 have HB:=hide (byteN_eq t 0 h0)
 have h3:(t[0].toNat:Int)=192+(z:Int):=by rw[HB.out];omega
 have HS:Hid (∀W,Calls Tryz.prog 153 #[.string t,.int .i64 (192+(z:Int) - 192)] W fun e w' => e=.returned (.tuple #[.int .i64 0,.int .i64 0,.int .i64 er])∧w' = W):=by
  intro W
  have h:=span_any t z W ht hz
  rw[hsp] at h
  rwa [show (z:Int)=192+(z:Int) - 192 from by omega] at h
 have b2:(0:Int)<(t.size:Int):=by omega
 have b3:((t.size:Int) == 0)=false:=beq_false_of_ne (by omega)
 have b4:(z:Int)≤63:=by omega
 have b5:(0:Int)≤(z:Int):=by omega
 have e1:(er == 0)=false:=beq_false_of_ne her
 have e2:(er != 0)=true:=by simpa using her
 clear hb hsp hz her
 go_enter Tryz.func132,Tryz.ntmps132
 go_wp2_with fail
 refine (HS.out _).mono ?_
 rintro e w1 ⟨rfl,rfl⟩
 go_wp2
 refine bodyPost_ret (v:=.tuple #[it0,.int .i64 0,.int .i64 er]) (by simp[results,Tryz.results132,go_sem,it0]) rfl ⟨rfl,?_⟩
 exact below_alloc _ _
theorem cut_listD (t:ByteArray)(d z x y:Nat)(w:World)(h0:0 < t.size)(ht:t.size≤6000)(hb:byteN t 0=192+z)(hz:z≤63)(hd8:8≤d)(hsp:spanN t 0 z t.size=((x,y),0)) :
  Calls Tryz.prog 132 #[.string t,.int .i64 (d:Int)] w fun e w' => e=.returned (.tuple #[it0,.int .i64 0,.int .i64 6])∧Below w.heap.size w w' := by
 have HB:=hide (byteN_eq t 0 h0)
 have h3:(t[0].toNat:Int)=192+(z:Int):=by rw[HB.out];omega
 have HS:Hid (∀W,Calls Tryz.prog 153 #[.string t,.int .i64 (192+(z:Int) - 192)] W fun e w' => e=.returned (.tuple #[.int .i64 (x:Int),.int .i64 (y:Int),.int .i64 0])∧w' = W):=by
  intro W
  have h:=span_any t z W ht hz
  rw[hsp] at h
  rwa [show (z:Int)=192+(z:Int) - 192 from by omega] at h
 have b2:(0:Int)<(t.size:Int):=by omega
 have b3:((t.size:Int) == 0)=false:=beq_false_of_ne (by omega)
 have b4:(z:Int)≤63:=by omega
 have b5:(0:Int)≤(z:Int):=by omega
 have b6:(8:Int)≤(d:Int):=by omega
 clear hb hsp hz
 go_enter Tryz.func132,Tryz.ntmps132
 go_wp2_with fail
 refine (HS.out _).mono ?_
 rintro e w1 ⟨rfl,rfl⟩
 go_wp2
 refine bodyPost_ret (v:=.tuple #[it0,.int .i64 0,.int .i64 6]) (by simp[results,Tryz.results132,go_sem,it0]) rfl ⟨rfl,?_⟩
 exact below_alloc _ _
theorem cut_list (s:ByteArray)(hs:s.size≤6000)(r d a limit:Nat)(ih:CutOk s r (d+1))(hd7:d<8)(ha:a<limit)(hlim:limit≤s.size)(t:ByteArray)(ht:t=s.extract a limit)(z x y:Nat)(w:World)(hb:byteN t 0=192+z)(hz:z≤63)(hxy:x≤y)(hyt:y≤t.size)(hx1:1≤x)(hsp:spanN t 0 z t.size=((x,y),0)) :
  Calls Tryz.prog 132 #[.string t,.int .i64 (d:Int)] w fun e w' => CutPost (r+1) (listN (some (readN s r)) (a+x) (a+y)) a w e w' := by
 obtain⟨i0,hi,hz0,hz1,hz2⟩:=info_parts infoIt
 have hts:t.size=limit - a:=by rw[ht];exact ext_size s a limit (by omega) hlim
 have h0:0 < t.size:=by omega
 have HB:=hide (byteN_eq t 0 h0)
 have h3:(t[0].toNat:Int)=192+(z:Int):=by rw[HB.out];omega
 have HS:Hid (∀W,Calls Tryz.prog 153 #[.string t,.int .i64 (192+(z:Int) - 192)] W fun e w' => e=.returned (.tuple #[.int .i64 (x:Int),.int .i64 (y:Int),.int .i64 0])∧w' = W):=by
  intro W
  have h:=span_any t z W (by omega) hz
  rw[hsp] at h
  rwa [show (z:Int)=192+(z:Int) - 192 from by omega] at h
 have HK:=hide (And.intro hs (And.intro ha (And.intro hlim (And.intro hts (And.intro hxy (And.intro hyt hx1))))))
 have HE:Hid (∀f,f≤y→t.extract f y=s.extract (a+f) (a+y)):=fun f _=>by rw[ht];exact ext_ext s a limit f y (by omega)
 have b2:(0:Int)<(t.size:Int):=by omega
 have b3:((t.size:Int) == 0)=false:=beq_false_of_ne (by omega)
 have b4:(z:Int)≤63:=by omega
 have b5:(0:Int)≤(z:Int):=by omega
 have b6:decide ((8:Int)≤(d:Int))=false:=by simp;omega
 have b6b:(d:Int)<8:=by omega
 have b7:decide (192+(z:Int)<128)=false:=by simp;omega
 have b8:decide (192+(z:Int)<192)=false:=by simp;omega
 have b9:(0:Int)≤(d:Int):=by omega
 have by1:(y:Int)≤(t.size:Int):=by omega
 have hR:Hid (((w.alloc (.cells #[.bool false,.string ⟨#[]⟩,.slice none 0 0] 164)).alloc (.cells #[.bool true,.string ⟨#[]⟩,.slice none 0 0] 164)).heap[w.heap.size]? = some (.cells #[.bool false,.string ⟨#[]⟩,.slice none 0 0] 164 (0,0))):=by
  show _=_
  rw[Below.heap_alloc _ _ _ (by simp)]
  exact heap_alloc_new w _
 have HL0:Hid (Ls r w ((w.alloc (.cells #[.bool false,.string ⟨#[]⟩,.slice none 0 0] 164)).alloc (.cells #[.bool true,.string ⟨#[]⟩,.slice none 0 0] 164)) (w.heap.size+1) (.slice none 0 0) [] []) :=
  ⟨by have:=heap_alloc_new (w.alloc (.cells #[.bool false,.string ⟨#[]⟩,.slice none 0 0] 164)) (.cells #[.bool true,.string ⟨#[]⟩,.slice none 0 0] 164);simpa using this,World.ownsRow_nil _ _ _ _,rfl,fun i hi=>by simp at hi,below_alloc2 _ _ _,Nat.le_succ _⟩
 clear hb hsp hz hts hxy hyt hs ha hlim ht
 go_enter Tryz.func132,Tryz.ntmps132
 go_wp2_with fail
 refine (HS.out _).mono ?_
 rintro e w1 ⟨rfl,rfl⟩
 go_wp2_with fail
 clear b6 b7 b8 b3 HB
 obtain⟨W0,hW0⟩:∃W0,W0=(w.alloc (.cells #[.bool false,.string ⟨#[]⟩,.slice none 0 0] 164)).alloc (.cells #[.bool true,.string ⟨#[]⟩,.slice none 0 0] 164):=⟨_,rfl⟩
 rw[←hW0] at HL0 hR
 rw[←hW0]
 clear hW0
 go_loopw [11] (fun i wr=>∃(m f:Nat) (css:List (List Value)) (pss:List (List Prt)) (lk:Value),i=.int .i64 (f:Int)∧x+css.length≤f∧f≤y∧(a+y) - (a+f)≤m∧itemsA (fun q=>readN s r q (a+y)) (a+y) ((a+y) - (a+x)) (a+x) [] 0=itemsA (fun q=>readN s r q (a+y)) (a+y) m (a+f) pss.flatten css.length∧wr.heap[w.heap.size]? = some (.cells #[.bool false,.string ⟨#[]⟩,.slice none 0 0] 164 (0,0))∧Ls r w wr (w.heap.size+1) lk css pss) (fun i _=>y - (intOf i).toNat)
 case atStart=>exact⟨(a+y) - (a+x),x,[],[],_,rfl,Nat.le_refl _,HK.out.2.2.2.2.1,Nat.le_refl _,rfl,hR.out,HL0.out⟩
 case round =>
  obtain⟨m,f,css,pss,lk,rfl,q1,q2,q3,q4,q5,q6⟩:=hrel
  have HQ:=hide (And.intro q1 (And.intro q2 (And.intro q3 (And.intro q4 (And.intro q5 q6)))))
  clear q1 q2 q3 q4 q5 q6
  by_cases hlt:f<y
  ·have cl:(f:Int)<(y:Int):=by omega
   have cf:(0:Int)≤(f:Int):=by omega
   obtain⟨m', hm'⟩:∃m', m=m' + 1:=⟨m - 1,by have:=HQ.out.2.2.1;omega⟩
   subst hm'
   have HIH0:Hid (Calls Tryz.prog 132 #[.string (t.extract f y),.int .i64 ((d:Int)+1)] wr fun e w' => CutPost r (readN s r (a+f) (a+y)) (a+f) wr e w'):=by
    show Calls _ _ _ _ _
    rw[HE.out f (by omega)]
    exact ih (a+f) (a+y) wr (by omega) (by have:=HK.out;omega)
   have hRl:w.heap.size<wr.heap.size:=by have:=HQ.out.2.2.2.2.2.lt;omega
   have HRL:=hide hRl
   clear hRl
   cases hr:readN s r (a+f) (a+y) with
   | error er =>
     rw[hr] at HIH0
     have he0:(er != 0)=true:=by simpa using readN_err s r _ _ er hr
     have HE2:Hid (listN (some (readN s r)) (a+x) (a+y)=.error er):=by
      show listN (some (readN s r)) (a+x) (a+y)=_
      unfold listN
      simp only
      rw[HQ.out.2.2.2.1,itemsA_bad (R:=fun q=>readN s r q (a+y)) (by omega) hr]
     clear hr
     go_wp2_with fail
     refine HIH0.out.mono ?_
     rintro e w6 ⟨rfl,hb6⟩
     have h6:∀o,(w6.alloc o).heap[w.heap.size]? = some (.cells #[.bool false,.string ⟨#[]⟩,.slice none 0 0] 164 (0,0)):=fun o=>by
      rw[Below.heap_alloc _ _ _ (Nat.lt_of_lt_of_le HRL.out hb6.size),hb6.block _ HRL.out];exact HQ.out.2.2.2.2.1
     have y0:∀o,(w6.alloc o).cell? ⟨w.heap.size,0,none⟩=some (.bool false):=fun o=>cell_of_row _ _ 0 _ _ (0,0) (h6 o)
     have y1:∀o,(w6.alloc o).cell? ⟨w.heap.size,1,none⟩=some (.string ⟨#[]⟩):=fun o=>cell_of_row _ _ 1 _ _ (0,0) (h6 o)
     have y2:∀o,(w6.alloc o).cell? ⟨w.heap.size,2,none⟩=some (.slice none 0 0):=fun o=>cell_of_row _ _ 2 _ _ (0,0) (h6 o)
     have yf:∀o j,(w6.alloc o).frozen? ⟨w.heap.size,j,none⟩=false:=fun o j=>by unfold World.frozen?;simp[h6 o]
     have HB6:=hide hb6
     clear h6 hb6
     unfold it0
     go_wp2
     rw[HE2.out]
     refine bodyPost_ret (v:=.tuple #[it0,.int .i64 0,.int .i64 er]) (by simp[results,Tryz.results132,go_sem,it0,y0,y1,y2]) rfl ⟨rfl,?_⟩
     have hw:=HQ.out.2.2.2.2.2.bel.size
     exact ((((HQ.out.2.2.2.2.2.bel.trans (HB6.out.mono hw)).alloc (Nat.le_trans hw HB6.out.size) _).setCell (Nat.le_refl _) _).setCell (Nat.le_refl _) _).setCell (Nat.le_refl _) _
   | ok yy =>
     obtain⟨qs,b⟩:=yy
     rw[hr] at HIH0
     have hb2:=hide (And.intro (readN_len s r _ _ qs b hr) (readN_pos s r _ _ qs b hr))
     have HST:Hid (itemsA (fun q=>readN s r q (a+y)) (a+y) (m' + 1) (a+f) pss.flatten css.length=itemsA (fun q=>readN s r q (a+y)) (a+y) m' b (pss.flatten++qs) (css.length+1)):=itemsA_go (R:=fun q=>readN s r q (a+y)) (by omega) hr
     clear hr
     go_wp2_with fail
     refine HIH0.out.mono ?_
     rintro e w6 ⟨c0,c1,c2,rfl,hit,hb6⟩
     obtain⟨l0,b0,ao0,lo0,lc0,hsh⟩:=hit.shape
     simp only[List.cons.injEq,and_true] at hsh
     obtain⟨rfl,rfl,rfl⟩:=hsh
     have HLS:=hide HQ.out.2.2.2.2.2
     have h6:∀o,(w6.alloc o).heap[w.heap.size+1]? = some (.cells #[.bool true,.string ⟨#[]⟩,lk] 164 (0,0)):=fun o=>by
      rw[Below.heap_alloc _ _ _ (Nat.lt_of_lt_of_le HLS.out.lt hb6.size),hb6.block _ HLS.out.lt];exact HLS.out.blk
     have x2:∀o,(w6.alloc o).cell? ⟨w.heap.size+1,2,none⟩=some lk:=fun o=>cell_of_row _ _ 2 _ _ (0,0) (h6 o)
     have HB6:=hide hb6
     have HIT:=hide hit
     obtain⟨ao,lc,hlv⟩:∃ao lc,lk=.slice ao css.length lc:=by
      rcases HLS.out.own.2 with⟨rfl,h0⟩|⟨g,c,cur,rfl,_⟩
      ·exact⟨none,0,by rw[h0]⟩
      ·exact⟨_,_,rfl⟩
     subst hlv
     have HOW:Hid (((w6.alloc (.cells #[.bool l0,.string b0,.slice ao0 lo0 lc0] 164)).alloc (.cells #[.bool l0,.string b0,.slice ao0 lo0 lc0] 164)).ownsRow (w.heap.size+1+1) 164 3 (.slice ao css.length lc) css.length css.flatten):=((own_far HLS.out.own (fun g _ hg=>hb6.block g hg)).alloc _).alloc _
     have HNW:Hid (∀j u,[Value.bool l0,.string b0,.slice ao0 lo0 lc0][j]? = some u→((w6.alloc (.cells #[.bool l0,.string b0,.slice ao0 lo0 lc0] 164)).alloc (.cells #[.bool l0,.string b0,.slice ao0 lo0 lc0] 164)).cell? ((⟨w6.heap.size+1,0,none⟩:Addr).add j)=some u):=by
      have h:=news_ofT (w6.alloc (.cells #[.bool l0,.string b0,.slice ao0 lo0 lc0] 164)) 164 [.bool l0,.string b0,.slice ao0 lo0 lc0]
      rwa [show (w6.alloc (.cells #[.bool l0,.string b0,.slice ao0 lo0 lc0] 164)).heap.size=w6.heap.size+1 from by simp] at h
     have n1:((b - (a+f):Nat):Int)≤6000:=by have:=hb2.out;have:=HK.out;omega
     have n0:(0:Int)≤((b - (a+f):Nat):Int):=by omega
     have nf:(f:Int)≤6000:=by have:=HK.out;omega
     clear h6 hb6 hit
     go_wp2_with (at_builtin;go_must (refine wpList_append_lies _ rfl (.tmp 101) (.tmp 103) 162 rfl (w.heap.size+1+1) 164 i0 _ 3 48 Tryz.underlying162 hi hz0 hz1 hz2 rfl (by omega) (.slice ao css.length lc) css.length css.flatten rfl HOW.out (⟨w6.heap.size+1,0,none⟩:Addr) 1 1 [.bool l0,.string b0,.slice ao0 lo0 lc0] (by simp[Act.eval]) (by rfl) HNW.out (by simp[Value.oneCell']) (by omega) (by have:=HK.out;have:=HQ.out;unfold maxLen;omega) (by have:=HK.out;have:=HQ.out;omega) (by have:=HLS.out.lt;have:=HB6.out.size;simp;omega) _ rfl ?_);intro g8 c8 w8 ho8 hg8 hat8 hlt8;go_must (have HP:=hide (HLS.out.push HB6.out HIT.out ho8 hg8 hat8));have hp8:=HP.out.1;have hf8:=HP.out.2.1;clear ho8 hg8 hat8 hlt8)
     have HRB:Hid ((w8.setCell ⟨w.heap.size+1,2,none⟩ (.slice (some ⟨g8,0,none⟩) (css.length+1) c8)).heap[w.heap.size]? = some (.cells #[.bool false,.string ⟨#[]⟩,.slice none 0 0] 164 (0,0))):=by
      show _=_
      rw[Below.heap_setCell _ _ _ _ (by show w.heap.size≠w.heap.size+1;omega),HP.out.2.2.1 w.heap.size HRL.out (fun e=>by have:=own_ge HLS.out.own (Nat.le_refl _) _ e;omega)]
      exact HQ.out.2.2.2.2.1
     have HAB:Hid (a+(b - a)=b):=by show _=_;have:=hb2.out;omega
     go_roundw
     case rel=>exact⟨m', b - a,css++[[.bool l0,.string b0,.slice ao0 lo0 lc0]],pss++[qs],_,by have:=hb2.out;congr 1;omega,by have:=hb2.out;have:=HQ.out.1;simp;omega,by have:=hb2.out;omega,by have:=hb2.out;have:=HQ.out.2.2.1;omega,by rw[HAB.out,HQ.out.2.2.2.1,HST.out];simp,HRB.out,HP.out.2.2.2⟩
     case measure=>simp[intOf];have:=hb2.out;omega
  ·have cl:decide ((f:Int)<(y:Int))=false:=by simp;omega
   have HE2:Hid (listN (some (readN s r)) (a+x) (a+y)=.ok ((true,css.length,⟨#[]⟩) :: pss.flatten,a+y)):=by
    show listN (some (readN s r)) (a+x) (a+y)=_
    unfold listN
    simp only
    rw[HQ.out.2.2.2.1,itemsA_end (by omega)]
   have x0:wr.cell? ⟨w.heap.size+1,0,none⟩=some (.bool true):=cell_of_row wr _ 0 _ _ (0,0) HQ.out.2.2.2.2.2.blk
   have x1:wr.cell? ⟨w.heap.size+1,1,none⟩=some (.string ⟨#[]⟩):=cell_of_row wr _ 1 _ _ (0,0) HQ.out.2.2.2.2.2.blk
   have x2:wr.cell? ⟨w.heap.size+1,2,none⟩=some lk:=cell_of_row wr _ 2 _ _ (0,0) HQ.out.2.2.2.2.2.blk
   have y0:wr.cell? ⟨w.heap.size,0,none⟩=some (.bool false):=cell_of_row wr _ 0 _ _ (0,0) HQ.out.2.2.2.2.1
   have y1:wr.cell? ⟨w.heap.size,1,none⟩=some (.string ⟨#[]⟩):=cell_of_row wr _ 1 _ _ (0,0) HQ.out.2.2.2.2.1
   have y2:wr.cell? ⟨w.heap.size,2,none⟩=some (.slice none 0 0):=cell_of_row wr _ 2 _ _ (0,0) HQ.out.2.2.2.2.1
   have yf:∀j,wr.frozen? ⟨w.heap.size,j,none⟩=false:=fun j=>by unfold World.frozen?;simp[HQ.out.2.2.2.2.1]
   have hlk:lk.oneCell' = true:=by
    rcases HQ.out.2.2.2.2.2.own.2 with⟨rfl,_⟩|⟨g,c,cur,rfl,_⟩<;>rfl
   obtain⟨ao,lo,lc,hlv⟩:∃ao lo lc,lk=.slice ao lo lc:=by
    rcases HQ.out.2.2.2.2.2.own.2 with⟨rfl,_⟩|⟨g,c,cur,rfl,_⟩
    ·exact⟨_,_,_,rfl⟩
    ·exact⟨_,_,_,rfl⟩
   subst hlv
   have HV:Hid (((a+y - a:Nat):Int)=(y:Int)):=by show _=_;omega
   go_wp2
   rw[HE2.out]
   refine bodyPost_ret (v:=.tuple #[.agg #[.bool true,.string ⟨#[]⟩,.slice ao lo lc],.int .i64 (y:Int),.int .i64 0]) (by simp[results,Tryz.results132,go_sem,y0,y1,y2]) rfl ⟨.bool true,.string ⟨#[]⟩,.slice ao lo lc,by rw[HV.out],?_,?_⟩
   ·exact HQ.out.2.2.2.2.2.done (R:=w.heap.size) (Nat.lt_succ_self _) (Nat.le_refl _) (fun k hk=>by rw[Below.heap_setCell _ _ _ _ hk,Below.heap_setCell _ _ _ _ hk,Below.heap_setCell _ _ _ _ hk])
   ·exact ((HQ.out.2.2.2.2.2.bel.setCell (Nat.le_refl _) _).setCell (Nat.le_refl _) _).setCell (Nat.le_refl _) _
end Go.Proofs.YthdjmldddjljfaaGreatDoor.V
namespace Go.Proofs.YthdjmldddjljfaaGreatDoor.V
open Go.RowKit
theorem span_width (t:ByteArray)(z limit:Nat)(h:(spanN t 0 z limit).2=0)(hz:z≠1):(spanN t 0 z limit).1.2≠(spanN t 0 z limit).1.1+1:=by
 unfold spanN at h ⊢
 by_cases h1:z≤55
 ·rw[if_pos h1] at h ⊢
  by_cases h2:limit<0+1+z
  ·rw[if_pos h2] at h;cases h
  ·rw[if_neg h2]
   show 0+1+z≠0+1+1
   omega
 ·rw[if_neg h1] at h ⊢
  rcases lenN_cases t (0+1) (z - 55) limit with⟨q1,q2⟩|⟨L,q1,q2,q3⟩
  ·rw[if_pos (by rcases q2 with e|e<;>rw[e]<;>decide)] at h
   rcases q2 with e|e<;>rw[e] at h<;>cases h
  ·rw[q3] at h ⊢
   rw[if_neg (by simp)] at h ⊢
   split at h
   ·cases h
   ·rename_i hl
    rw[if_neg hl]
    show 0+1+(z - 55)+(L:Int).toNat≠0+1+(z - 55)+1
    rw[Int.toNat_natCast]
    omega
theorem span_one (t:ByteArray)(limit:Nat)(h:(spanN t 0 1 limit).2=0):spanN t 0 1 limit=((1,2),0):=by
 unfold spanN at h ⊢
 rw[if_pos (by decide)] at h ⊢
 by_cases h2:limit<0+1+1
 ·rw[if_pos h2] at h;cases h
 ·rw[if_neg h2]
theorem span_split (t:ByteArray)(z limit:Nat)(h:(spanN t 0 z limit).2=0):spanN t 0 z limit=(((spanN t 0 z limit).1.1,(spanN t 0 z limit).1.2),0):=by
 rw[←h]
theorem cut_text_post {r a en:Nat}{w w' : World}{b:ByteArray}{n:Int}(hn:n=((en - a:Nat):Int))(hb:Below w.heap.size w w'):CutPost r (.ok ([(false,0,b)],en)) a w (.returned (.tuple #[.agg #[.bool false,.string b,.slice none 0 0],.int .i64 n,.int .i64 0])) w' := by
 subst hn
 exact⟨.bool false,.string b,.slice none 0 0,rfl,ItIs.text r w' _ b,hb⟩
theorem cut_step (s:ByteArray)(hs:s.size≤6000)(r d:Nat)(hrd:d+r=8)(ih:∀r', r=r' + 1→CutOk s r' (d+1)):CutOk s r d:=by
 intro a limit w ha hl
 rw[readN_eq]
 unfold readStep
 have hts:=ext_size s a limit ha hl
 by_cases h1:limit≤a
 ·rw[if_pos h1,empty_of_size (s:=s.extract a limit) (by omega)]
  exact cut_empty d w
 ·rw[if_neg h1]
  have hb0:byteN (s.extract a limit) 0=byteN s a:=ext_get s a limit 0 (by omega) hl
  by_cases h2:byteN s a<128
  ·rw[if_pos h2]
   refine (cut_own (s.extract a limit) d w (by omega) (by omega)).mono ?_
   rintro e w' ⟨rfl,hb⟩
   rw[ext_ext s a limit 0 1 (by omega)]
   exact cut_text_post (by omega) hb
  ·rw[if_neg h2]
   by_cases h3:byteN s a<192
   ·rw[if_pos h3]
    obtain⟨e2,e1⟩:=span_ext s a (byteN s a - 128) limit (by omega) hl
    unfold textN
    by_cases h4:(spanN s a (byteN s a - 128) limit).2=0
    ·rw[if_neg (by simpa using h4)]
     obtain⟨ex,ey⟩:=e1 h4
     rw[h4] at e2
     have h5:=span_ok (s.extract a limit) 0 (byteN s a - 128) (s.extract a limit).size e2
     have hsp:=span_split _ _ _ e2
     rw[←ex,←ey,←ext_ext s a limit _ _ (by omega)]
     by_cases hz1:byteN s a - 128=1
     ·rw[hz1] at hsp e2 h5 ⊢
      have h6:=span_one _ _ e2
      rw[h6] at h5 ⊢
      have h7:2≤(s.extract a limit).size:=h5.2.2
      have hx:byteN ((s.extract a limit).extract 1 2) 0=byteN (s.extract a limit) 1:=ext_get _ 1 2 0 (by omega) h7
      have hy:((s.extract a limit).extract 1 2).size=1:=by rw[ext_size _ 1 2 (by omega) h7]
      by_cases hf:byteN (s.extract a limit) 1 < 128
      ·rw[if_pos (by show ownC _=true;unfold ownC;rw[hx,hy];simp[hf])]
       exact cut_textF (s.extract a limit) d w (by omega) (by omega) (by omega) h7 hf h6
      ·rw[if_neg (by show ¬ownC _=true;unfold ownC;rw[hx,hy];simp;omega)]
       refine (cut_textG (s.extract a limit) d 1 2 w (by omega) (by omega) (by omega) h7 (by omega) (by omega) h7 h6).mono ?_
       rintro e w' ⟨rfl,hb⟩
       exact cut_text_post (by show ((2:Nat):Int)=((a+2 - a:Nat):Int);omega) hb
     ·have hw:=span_width _ _ _ e2 hz1
      have hy:=ext_size (s.extract a limit) _ _ h5.2.1 h5.2.2
      have hne:¬((s.extract a limit).extract (spanN (s.extract a limit) 0 (byteN s a - 128) (s.extract a limit).size).1.1 (spanN (s.extract a limit) 0 (byteN s a - 128) (s.extract a limit).size).1.2).size=1:=by rw[hy];omega
      rw[if_neg (by show ¬ownC _=true;unfold ownC;rw[decide_eq_false hne,Bool.false_and];exact Bool.false_ne_true)]
      refine (cut_textK (s.extract a limit) d (byteN s a - 128) _ _ w (by omega) (by omega) (by omega) (by omega) hz1 h5.2.1 h5.2.2 hsp).mono ?_
      rintro e w' ⟨rfl,hb⟩
      exact cut_text_post (by omega) hb
    ·rw[if_pos h4]
     have h5:=span_bad (s.extract a limit) 0 (byteN s a - 128) (s.extract a limit).size (by rw[e2];exact h4)
     exact cut_textE (s.extract a limit) d (byteN s a - 128) w (by omega) (by omega) (by omega) (by omega) _ h4 (by rw[←e2,←h5])
   ·rw[if_neg h3]
    have h256:=byteN_lt s a
    obtain⟨e2,e1⟩:=span_ext s a (byteN s a - 192) limit (by omega) hl
    by_cases h4:(spanN s a (byteN s a - 192) limit).2=0
    ·rw[if_neg (by simpa using h4)]
     obtain⟨ex,ey⟩:=e1 h4
     rw[h4] at e2
     have h5:=span_ok (s.extract a limit) 0 (byteN s a - 192) (s.extract a limit).size e2
     have hsp:=span_split _ _ _ e2
     rw[←ex,←ey]
     cases r with
     | zero=>exact cut_listD (s.extract a limit) d (byteN s a - 192) _ _ w (by omega) (by omega) (by omega) (by omega) (by omega) hsp
     | succ r=>exact cut_list s hs r d a limit (ih r rfl) (by omega) (by omega) hl _ rfl (byteN s a - 192) _ _ w (by omega) (by omega) h5.2.1 h5.2.2 (by omega) hsp
    ·rw[if_pos h4]
     have h5:=span_bad (s.extract a limit) 0 (byteN s a - 192) (s.extract a limit).size (by rw[e2];exact h4)
     exact cut_listE (s.extract a limit) d (byteN s a - 192) w (by omega) (by omega) (by omega) (by omega) _ h4 (by rw[←e2,←h5])
theorem cut_any (s:ByteArray)(hs:s.size≤6000):∀(r d:Nat),d+r=8→CutOk s r d
 | 0,d,h=>cut_step s hs 0 d h (fun _ e=>by cases e)
 | r+1,d,h=>cut_step s hs (r+1) d h (fun r' e=>by cases e;exact cut_any s hs r (d+1) (by omega))
end Go.Proofs.YthdjmldddjljfaaGreatDoor.V
namespace Go.Proofs.YthdjmldddjljfaaGreatDoor.V
open Go.RowKit
attribute [local go_sem ↓] Go.wp_at_zero Go.wp_at_succ
def ItB:Nat→World→List Value→ByteArray→Prop
 | 0,_,cs,t=>∃b,txt t=some b∧cs=[.bool false,.string b,.slice none 0 0]
 | r+1,w,cs,t=>(∃b,txt t=some b∧cs=[.bool false,.string b,.slice none 0 0]) ∨
   ∃(v:Value) (css:List (List Value)) (ts:List ByteArray),itemsOf t=some ts∧cs=[.bool true,.string ⟨#[]⟩,v]∧w.ownsRow 0 164 3 v css.length css.flatten∧Al (ItB r w) css ts
theorem own_blk {w:World}{base e size n:Nat}{v:Value}{xs:List Value}(h:w.ownsRow base e size v n xs){g:Nat}(hg:v.ownBlock=some g):g<w.heap.size:=by
 rcases h.2 with⟨rfl,_⟩|⟨g', c,cur,rfl,_,hh,_⟩
 ·cases hg
 ·obtain rfl:g' = g:=by simpa[Value.ownBlock] using hg
  exact (aGe.1 hh).1
theorem ItB.keep {w w' : World}(hb:Below w.heap.size w w'):∀{r:Nat} {cs:List Value} {t:ByteArray},ItB r w cs t→ItB r w' cs t
 | 0,_,_,h=>h
 | r+1,cs,t,h=>by
   rcases h with h|⟨v,css,ts,h1,h2,h3,h4⟩
   ·exact .inl h
   ·exact .inr ⟨v,css,ts,h1,h2,own_far h3 (fun g _ hg=>hb.block g hg),h4.mono (fun _ _ h=>ItB.keep hb h)⟩
theorem ItIs.full {w:World}{ok:Nat→Prop}:∀{r:Nat} {cs:List Value} {q:List Prt},ItIs r w ok cs q→FullP q
 | 0,_,_,⟨b,_,e⟩=>by rw[e];exact FullP.text b
 | r+1,cs,q,h=>by
   rcases h with⟨b,_,e⟩|⟨v,css,pss,h1,h2,h3,h4,h5,h6⟩
   ·rw[e];exact FullP.text b
   ·rw[h6]
    refine FullP.list (fun p hp=>?_) h4
    obtain⟨i,hi,rfl⟩:=List.getElem_of_mem hp
    have:=h5 i (by omega)
    rw[List.getD_eq_getElem?_getD (l:=pss),List.getElem?_eq_getElem hi] at this
    exact ItIs.full this
theorem ItB.shape {w:World}{r:Nat}{cs:List Value}{t:ByteArray}(h:ItB r w cs t):∃(l:Bool) (b:ByteArray) (ao:Option Addr) (lo lc:Nat),cs=[.bool l,.string b,.slice ao lo lc]:=by
 cases r with
 | zero=>obtain⟨b,_,rfl⟩:=h;exact⟨_,_,_,_,_,rfl⟩
 | succ r =>
   rcases h with⟨b,_,rfl⟩|⟨v,css,ts,_,rfl,h2,_⟩
   ·exact⟨_,_,_,_,_,rfl⟩
   ·rcases h2.2 with⟨rfl,_⟩|⟨g,c,cur,rfl,_⟩
    ·exact⟨_,_,_,_,_,rfl⟩
    ·exact⟨_,_,_,_,_,rfl⟩
end Go.Proofs.YthdjmldddjljfaaGreatDoor.V
namespace Go.Proofs.YthdjmldddjljfaaGreatDoor.V
open Go.RowKit
structure Th where
 path:List Int
 value:ByteArray
 hash:ByteArray
 under:Bool
end Go.Proofs.YthdjmldddjljfaaGreatDoor.V
