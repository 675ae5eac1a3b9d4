/-
  OUR OWN.
-/
import Derived.Test.YthdjmldddjljfaaGreatDoorH28
import Derived.Deep.RegionLaw
set_option maxHeartbeats 8000000
set_option maxRecDepth 20000
namespace Go.Proofs.YthdjmldddjljfaaGreatDoor.V
open Go.RowKit
attribute [local go_sem ↓] Go.wp_at_zero Go.wp_at_succ
theorem flat3_at {css:List (List Value)}(h3:∀i,i<css.length→(css.getD i []).length=3):∀(q j:Nat),q<css.length→j<3→css.flatten[q*3+j]? = (css.getD q [])[j]?:=by
 induction css with
 | nil=>intro q j hq;simp at hq
 | cons c r ih =>
   intro q j hq hj
   have hc:c.length=3:=h3 0 (by simp)
   cases q with
   | zero=>rw[List.flatten_cons,List.getElem?_append_left (by omega)];simp
   | succ q =>
     rw[List.flatten_cons,List.getElem?_append_right (by omega),hc,show (q+1)*3+j - 3=q*3+j from by omega,ih (fun i hi=>by simpa using h3 (i+1) (by simp;omega)) q j (by simpa using hq) hj]
     simp
theorem ItB.len3 {w:World}{r:Nat}{cs:List Value}{t:ByteArray}(h:ItB r w cs t):cs.length=3:=by
 obtain⟨_,_,_,_,_,rfl⟩:=h.shape;rfl
theorem al_getD {w:World}{r:Nat}{css:List (List Value)}{ts:List ByteArray}(h:Al (ItB r w) css ts)(q:Nat)(hq:q<css.length):ItB r w (css.getD q []) (ts.getD q eB):=by
 have:=h.at q hq (by have:=h.len;omega)
 rw[List.getD_eq_getElem?_getD,List.getElem?_eq_getElem hq,List.getD_eq_getElem?_getD,List.getElem?_eq_getElem (by have:=h.len;omega)]
 exact this
theorem itsB_cell {w wr:World}{ao:Option Addr}{lc r:Nat}{css:List (List Value)}{ts:List ByteArray}(ho:w.ownsRow 0 164 3 (.slice ao css.length lc) css.length css.flatten)(hi:Al (ItB r w) css ts)(hb:Below w.heap.size w wr)(q:Nat)(hlt:q<css.length) :
  ∃g l0 b0 ao0 lo0 lc0,ao=some ⟨g,0,none⟩∧css.getD q []=[.bool l0,.string b0,.slice ao0 lo0 lc0]∧wr.cell? ⟨g,q*3,none⟩=some (.bool l0)∧wr.cell? ⟨g,q*3+1,none⟩=some (.string b0)∧wr.cell? ⟨g,q*3+2,none⟩=some (.slice ao0 lo0 lc0):=by
 obtain⟨g,hao,hgl,hcell⟩:∃g,ao=some ⟨g,0,none⟩∧g<w.heap.size∧∀j u,css.flatten[j]? = some u→w.cell? ⟨g,j,none⟩=some u:=by
  rcases ho.2 with⟨_,h0⟩|⟨g,c,cur,hh,_,hg,_⟩
  ·omega
  ·injection hh with hh1 _ _
   refine⟨g,hh1,(aGe.1 hg).1,fun j u hu=>?_⟩
   have h:=ho.cells (g:=g) (by rw[hh1];rfl) j u hu
   rwa [addr_add,Nat.zero_add] at h
 obtain⟨l0,b0,ao0,lo0,lc0,hsh⟩:=(al_getD hi q hlt).shape
 have hat:∀j u,j<3→[Value.bool l0,.string b0,.slice ao0 lo0 lc0][j]? = some u→wr.cell? ⟨g,q*3+j,none⟩=some u:=by
  intro j u hj hu
  rw[hb.cell (p:=⟨g,q*3+j,none⟩) hgl]
  refine hcell _ _ ?_
  rw[flat3_at (fun i hi' => (al_getD hi i hi').len3) q j hlt hj,hsh]
  exact hu
 exact⟨g,l0,b0,ao0,lo0,lc0,hao,hsh,hat 0 _ (by decide) rfl,hat 1 _ (by decide) rfl,hat 2 _ (by decide) rfl⟩
theorem codeB_text (b:ByteArray)(w:World)(hb:b.size<72057594037927936) :
  Calls Tryz.prog 93 #[.agg #[.bool false,.string b,.slice none 0 0]] w fun e w' => e=.returned (.string (textC b))∧Below w.heap.size w w' := by
 have HS:=hide hb
 clear hb
 cases ho:ownC b with
 | true =>
   have HE:Hid (textC b=b):=by show _=_;simp[textC,ho]
   have h1:b.size=1:=by simp[ownC] at ho;exact ho.1
   have h0:0 < b.size:=by omega
   have HB:=hide (byteN_eq b 0 h0)
   have h2:(b[0].toNat:Int)<128:=by rw[HB.out];simp[ownC] at ho;omega
   have e1:(b.size:Int)=1:=by omega
   clear ho h1
   go_enter Tryz.func93,Tryz.ntmps93
   go_wp2
   go_ret
   exact⟨by rw[HE.out];rfl,below_alloc _ _⟩
 | false =>
   have HE:Hid (textC b=headS 128 b):=by show _=_;simp[textC,ho]
   have HA:Hid (∀W,Calls Tryz.prog 117 #[.int .i64 128,.int .i64 (b.size:Int)] W fun e w' => e=.returned (.string (strOfNums (hdr 128 b.size)))∧Below W.heap.size W w'):=fun W=>refAhead_any 128 b.size W (by omega) HS.out
   have HH:Hid (headS 128 b=strOfNums (hdr 128 b.size)++b):=rfl
   have hz:(strOfNums (hdr 128 b.size)).size≤8:=by rw[strOfNums_size];exact hdr_length _ _
   have hz4:¬9223372036854775807 < (strOfNums (hdr 128 b.size)).size+b.size:=by have:=HS.out;omega
   generalize strOfNums (hdr 128 b.size)=S at *
   by_cases h1:b.size=1
   ·have h0:0 < b.size:=by omega
    have HB:=hide (byteN_eq b 0 h0)
    have h2:(128:Int)≤(b[0].toNat:Int):=by rw[HB.out];simp[ownC,h1] at ho;omega
    have e1:((b.size:Int) == 1)=true:=by simp;omega
    have e0:(0:Int)<(b.size:Int):=by omega
    clear ho h1
    go_enter Tryz.func93,Tryz.ntmps93
    go_wp2_with fail
    go_region_law
     ((go_simp;go_at_call 117;refine (HA.out _).mono ?_;rintro e w3 ⟨rfl,hb3⟩
       have HB3:Hid (Below w.heap.size w w3):=(below_alloc w (.cells #[.bool false,.string b,.slice none 0 0] 164)).trans (Below.mono ⟨hb3.os,hb3.tape,hb3.output,hb3.size,hb3.block⟩ (by simp))
       have hx3:w3.cell? ⟨w.heap.size,1,none⟩=some (.string b):=(World.cell?_of_block (w:=w.alloc (.cells #[.bool false,.string b,.slice none 0 0] 164)) (a:=⟨w.heap.size,1,none⟩) (hb3.block _ (by simp))).trans (cell_of_row _ w.heap.size 1 _ _ (0,0) (heap_alloc_new w _))
       clear hb3))
    all_goals
     go_wp2
     go_ret
     exact⟨by rw[HE.out,HH.out];rfl,HB3.out⟩
   ·have e1:((b.size:Int) == 1)=false:=by simp;omega
    clear ho h1
    go_enter Tryz.func93,Tryz.ntmps93
    go_wp2_with fail
    go_region_law
     ((go_simp;go_at_call 117;refine (HA.out _).mono ?_;rintro e w3 ⟨rfl,hb3⟩
       have HB3:Hid (Below w.heap.size w w3):=(below_alloc w (.cells #[.bool false,.string b,.slice none 0 0] 164)).trans (Below.mono ⟨hb3.os,hb3.tape,hb3.output,hb3.size,hb3.block⟩ (by simp))
       have hx3:w3.cell? ⟨w.heap.size,1,none⟩=some (.string b):=(World.cell?_of_block (w:=w.alloc (.cells #[.bool false,.string b,.slice none 0 0] 164)) (a:=⟨w.heap.size,1,none⟩) (hb3.block _ (by simp))).trans (cell_of_row _ w.heap.size 1 _ _ (0,0) (heap_alloc_new w _))
       clear hb3))
    all_goals
     go_wp2
     go_ret
     exact⟨by rw[HE.out,HH.out];rfl,HB3.out⟩
theorem join_take (ts:List ByteArray)(q:Nat)(h:q<ts.length):joinB (ts.take (q+1))=joinB (ts.take q)++ts.getD q eB:=by
 rw[List.take_succ_eq_append_getElem h,joinB_snoc,List.getD_eq_getElem?_getD,List.getElem?_eq_getElem h];rfl
theorem totS_eq (ts:List ByteArray):totS ts=(ts.map (·.size)).sum:=rfl
theorem totS_take (ts:List ByteArray)(q:Nat):totS (ts.take q)≤totS ts:=by
 have:=totS_append (ts.take q) (ts.drop q)
 rw[List.take_append_drop] at this
 omega
theorem codeB_list (r:Nat)(ih:∀(w:World) (c0 c1 c2:Value) (t:ByteArray),ItB r w [c0,c1,c2] t→t.size≤6000→Calls Tryz.prog 93 #[.agg #[c0,c1,c2]] w fun e w' => e=.returned (.string t)∧Below w.heap.size w w')
  (w:World) (lk:Value) (css:List (List Value)) (ts:List ByteArray) (ho:w.ownsRow 0 164 3 lk css.length css.flatten) (hi:Al (ItB r w) css ts) (ht:totS ts≤6000) :
  Calls Tryz.prog 93 #[.agg #[.bool true,.string ⟨#[]⟩,lk]] w fun e w' => e=.returned (.string (listC ts))∧Below w.heap.size w w' := by
 obtain⟨ao,lc,hlv⟩:∃ao lc,lk=.slice ao css.length lc:=by
  rcases ho.2 with⟨rfl,h0⟩|⟨g,c,cur,rfl,_⟩
  ·exact⟨none,0,by rw[h0]⟩
  ·exact⟨_,_,rfl⟩
 subst hlv
 have hml:(css.length:Int)≤9223372036854775807:=by
  rcases ho.2 with⟨_,h0⟩|⟨g,c,cur,_,_,_,h1,h2,_⟩
  ·omega
  ·unfold maxLen at h2;omega
 have HO:=hide ho
 have HI:=hide hi
 have HL:=hide hi.len
 have HT:=hide ht
 have HX0:Hid ((w.alloc (.cells #[.bool true,.string ⟨#[]⟩,.slice ao css.length lc] 164)).heap[w.heap.size]? = some (.cells #[.bool true,.string ⟨#[]⟩,.slice ao css.length lc] 164 (0,0))):=heap_alloc_new w _
 have HB0:Hid (Below w.heap.size w (w.alloc (.cells #[.bool true,.string ⟨#[]⟩,.slice ao css.length lc] 164))):=below_alloc w _
 clear ho hi ht
 go_enter Tryz.func93,Tryz.ntmps93
 go_wp2_with fail
 generalize World.alloc w _=W0 at *
 go_loopw [3,4] (fun sv i wr=>∃(q:Nat),q≤css.length∧i=.int .i64 (q:Int)∧sv=.string (joinB (ts.take q))∧Below w.heap.size w wr∧wr.heap[w.heap.size]? = some (.cells #[.bool true,.string ⟨#[]⟩,.slice ao css.length lc] 164 (0,0))) (fun _ i _=>css.length - (intOf i).toNat)
 case atStart=>exact⟨0,Nat.zero_le _,rfl,rfl,HB0.out,HX0.out⟩
 case round =>
  obtain⟨q,hq,rfl,rfl,hbw,hbx⟩:=hrel
  have HB:=hide hbw
  have HX:=hide hbx
  have hx2:wr.cell? ⟨w.heap.size,2,none⟩=some (.slice ao css.length lc):=cell_of_row wr _ 2 _ _ (0,0) hbx
  clear hbw hbx
  have htk:=totS_take ts q
  have hjs:=joinB_size (ts.take q)
  by_cases hlt:q<css.length
  ·have cl:(q:Int)<(css.length:Int):=by omega
   obtain⟨g,l0,b0,ao0,lo0,lc0,rfl,hsh,z0,z1,z2⟩:=itsB_cell HO.out HI.out HB.out q hlt
   have HQI:=hide (al_getD HI.out q hlt)
   rw[hsh] at HQI
   have hcz:(ts.getD q eB).size≤6000:=by
    have h1:=sum_mem (List.mem_map_of_mem (f:=(·.size)) (getD_mem (l:=ts) (i:=q) (by have:=HL.out;omega)))
    have h2:=HT.out
    rw[totS_eq] at h2
    omega
   have HC:=hide (ih wr _ _ _ _ (HQI.out.keep HB.out) hcz)
   have HJ:=hide (join_take ts q (by have:=HL.out;omega))
   have hz:¬9223372036854775807 < (joinB (ts.take q)).size+(ts.getD q eB).size:=by rw[hjs];have:=HT.out;omega
   clear hsh htk hjs hcz
   generalize joinB (ts.take q)=J at *
   generalize ts.getD q eB=c at *
   go_wp2_with fail
   refine HC.out.mono ?_
   rintro e w2 ⟨rfl,hb2⟩
   have HB2:Hid (Below w.heap.size w w2):=HB.out.trans (hb2.mono HB.out.size)
   have HX2:Hid (w2.heap[w.heap.size]? = some (.cells #[.bool true,.string ⟨#[]⟩,.slice (some ⟨g,0,none⟩) css.length lc] 164 (0,0))):=by
    show _=_
    rw[hb2.block _ (aGe.1 HX.out).1];exact HX.out
   clear hb2
   go_wp2
   go_roundw
   case rel=>exact⟨q+1,by omega,by go_num,by rw[HJ.out],HB2.out,HX2.out⟩
   case measure=>simp[intOf];omega
  ·obtain rfl:q=css.length:=by omega
   have htl:ts.take css.length=ts:=List.take_of_length_le (by have:=HL.out;omega)
   rw[htl] at hjs ⊢
   have hsz:(joinB ts).size<72057594037927936:=by rw[hjs];have:=HT.out;omega
   have HSZ:=hide hsz
   have HA:Hid (∀W,Calls Tryz.prog 117 #[.int .i64 192,.int .i64 ((joinB ts).size:Int)] W fun e w' => e=.returned (.string (strOfNums (hdr 192 (joinB ts).size)))∧Below W.heap.size W w'):=fun W=>refAhead_any 192 (joinB ts).size W (by omega) HSZ.out
   have HH:Hid (listC ts=strOfNums (hdr 192 (joinB ts).size)++joinB ts):=rfl
   have hz4:¬9223372036854775807 < (strOfNums (hdr 192 (joinB ts).size)).size+(joinB ts).size:=by rw[strOfNums_size];have:=hdr_length 192 (joinB ts).size;omega
   clear hsz htl htk hjs
   generalize strOfNums (hdr 192 (joinB ts).size)=S at *
   generalize joinB ts=J at *
   go_wp2_with fail
   refine (HA.out _).mono ?_
   rintro e w2 ⟨rfl,hb2⟩
   go_wp2
   go_ret
   exact⟨by rw[HH.out];rfl,HB.out.trans (hb2.mono HB.out.size)⟩
theorem codeB_any:∀(r:Nat) (w:World) (c0 c1 c2:Value) (t:ByteArray),ItB r w [c0,c1,c2] t→t.size≤6000→Calls Tryz.prog 93 #[.agg #[c0,c1,c2]] w fun e w' => e=.returned (.string t)∧Below w.heap.size w w'
 | 0,w,c0,c1,c2,t,h,ht=>by
   obtain⟨b,h0,h1⟩:=h
   simp only[List.cons.injEq,and_true] at h1
   obtain⟨rfl,rfl,rfl⟩:=h1
   have hz:=txt_size h0
   have:=codeB_text b w (by omega)
   rwa [←txt_code h0 ht] at this
 | r+1,w,c0,c1,c2,t,h,ht=>by
   rcases h with⟨b,h0,h1⟩|⟨v,css,ts,h0,h1,ho,hi⟩
   ·simp only[List.cons.injEq,and_true] at h1
    obtain⟨rfl,rfl,rfl⟩:=h1
    have hz:=txt_size h0
    have:=codeB_text b w (by omega)
    rwa [←txt_code h0 ht] at this
   ·simp only[List.cons.injEq,and_true] at h1
    obtain⟨rfl,rfl,rfl⟩:=h1
    have hs:=(itemsOf_sizes h0).1
    have:=codeB_list r (codeB_any r) w _ css ts ho hi (by rw[totS_eq];omega)
    rwa [←items_code h0 ht] at this
def NewInts (B:Nat)(w:World)(v:Value)(p:List Int):Prop:=w.ownsRow B 3 1 v p.length (p.map (Value.int .i64))
def KpI (w w' : World):Prop:=∀(g:Nat) (cur:Array Value),w.heap[g]? = some (.cells cur 3 (0,0))→w'.heap[g]? = some (.cells cur 3 (0,0))
theorem KpI.of_below {w w' : World}(h:Below w.heap.size w w'):KpI w w' := fun g _ hg=>(h.block g (aGe.1 hg).1).trans hg
theorem KpI.trans {w w1 w2:World}(h:KpI w w1)(h2:KpI w1 w2):KpI w w2:=fun g cur hg=>h2 g cur (h g cur hg)
theorem KpI.of_grown {w w' : World}{base e k n:Nat}{v:Value}{xs:List Value}(ho:w.ownsRow base e k v n xs)(he:e≠3)(hg:w.grownBy w' v.ownBlock):KpI w w' := fun g cur hc=>by
 rw[hg.block g (aGe.1 hc).1]
 ·exact hc
 ·intro hb
  rcases ho.2 with⟨rfl,_⟩|⟨g', c,cur', rfl,_,h3,_⟩
  ·cases hb
  ·obtain rfl:g=g' := by simpa[Value.ownBlock] using hb
   rw[hc] at h3
   simp only[Option.some.injEq,Obj.cells.injEq] at h3
   exact he h3.2.1.symm
structure PSl (w:World)(ao:Option Addr)(cap:Nat)(p:List Int):Prop where
 nil:ao=none→cap=0
 cap:p.length≤cap
 at' : p≠[]→∃(g o:Nat) (cur:Array Value),ao=some ⟨g,o,none⟩∧w.heap[g]? = some (.cells cur 3 (0,0))∧∀j,j<p.length→cur[o+j]? = some (.int .i64 (p.getD j 0))
theorem PSl.keep {w w' : World}{ao:Option Addr}{cap:Nat}{p:List Int}(h:PSl w ao cap p)(hk:KpI w w'):PSl w' ao cap p:=⟨h.nil,h.cap,fun hn=>by
 obtain⟨g,o,cur,h1,h2,h3⟩:=h.at' hn
 exact⟨g,o,cur,h1,hk g cur h2,h3⟩⟩
theorem PSl.ints {w:World}{ao:Option Addr}{cap:Nat}{p:List Int}(h:PSl w ao cap p):Ints w ao p:=by
 by_cases hn:p=[]
 ·exact .inl hn
 ·obtain⟨g,o,cur,h1,h2,h3⟩:=h.at' hn
  exact .inr ⟨g,o,h1,fun j hj=>(cell_of_row w g (o+j) cur _ (0,0) h2).trans (h3 j hj)⟩
theorem PSl.of_own {w:World}{base:Nat}{v:Value}{p:List Int}(h:NewInts base w v p):∃ao cap,v=.slice ao p.length cap∧PSl w ao cap p:=by
 rcases h.2 with⟨rfl,h0⟩|⟨g,c,cur,rfl,_,h3,h4,_,_,h6⟩
 ·obtain rfl:p=[]:=List.length_eq_zero_iff.1 h0
  exact⟨none,0,rfl,⟨fun _=>rfl,Nat.le_refl _,fun h=>absurd rfl h⟩⟩
 ·refine⟨_,c,rfl,⟨(fun h=>by cases h),h4,fun _=>⟨g,0,cur,rfl,h3,fun j hj=>?_⟩⟩⟩
  have e1:(cur.toList.take (p.length*1))[j]? = (p.map (Value.int .i64))[j]?:=by rw[h6]
  rw[List.getElem?_take,if_pos (by omega),Array.getElem?_toList] at e1
  rw[Nat.zero_add,e1]
  simp[List.getD_eq_getElem?_getD,hj]
def ThAt (w:World)(cs:List Value)(x:Th):Prop:=∃ao cap,cs=[.slice ao x.path.length cap,.string x.value,.string x.hash,.bool x.under]∧PSl w ao cap x.path
theorem ThAt.keep {w w' : World}{cs:List Value}{x:Th}(h:ThAt w cs x)(hk:KpI w w'):ThAt w' cs x:=by
 obtain⟨ao,cap,h1,h2⟩:=h;exact⟨ao,cap,h1,h2.keep hk⟩
structure ThRow (base:Nat)(w:World)(v:Value)(L:List Th):Prop where
 held:∃css,w.ownsRow base 118 4 v L.length css.flatten∧Al (ThAt w) css L
theorem ThRow.keep {base:Nat}{w w' : World}{v:Value}{L:List Th}(h:ThRow base w v L)(hb:Below w.heap.size w w'):ThRow base w' v L:=by
 obtain⟨css,h1,h2⟩:=h
 exact⟨css,own_far h1 (fun g _ hg=>hb.block g hg),h2.mono (fun _ _ h=>h.keep (KpI.of_below hb))⟩
theorem ThRow.base {base base' : Nat}{w:World}{v:Value}{L:List Th}(h:ThRow base w v L)(hb:base' ≤ base):ThRow base' w v L:=by
 obtain⟨css,h1,h2⟩:=h;exact⟨css,own_base h1 hb,h2⟩
theorem ThRow.nil (base:Nat)(w:World):ThRow base w (.slice none 0 0) []:=⟨[],World.ownsRow_nil _ _ _ _,.nil⟩
theorem ThRow.shape {base:Nat}{w:World}{v:Value}{L:List Th}(h:ThRow base w v L):∃ao cap,v=.slice ao L.length cap:=by
 obtain⟨css,h1,_⟩:=h
 rcases h1.2 with⟨rfl,h0⟩|⟨g,c,cur,rfl,_⟩
 ·exact⟨none,0,by rw[h0]⟩
 ·exact⟨_,c,rfl⟩
theorem infoTh:(Tryz.prog.info? 118).map (fun i=>(i.zero,i.size,i.bytes))=some (some (.agg #[.slice none 0 0,.string ⟨#[]⟩,.string ⟨#[]⟩,.bool false]),4,64):=by kernel_rfl
theorem Al.append {α β:Type}{R:α→β→Prop}{l l2:List α}{m m2:List β}(h:Al R l m)(h2:Al R l2 m2):Al R (l++l2) (m++m2):=by
 induction h with
 | nil=>exact h2
 | cons h _ ih=>exact .cons h ih
theorem al_things {w:World}{css:List (List Value)}{L:List Th}(h:Al (ThAt w) css L):css.flatten.length=L.length*4∧∀u∈css.flatten,u.oneCell' = true:=by
 induction h with
 | nil=>exact⟨rfl,by simp⟩
 | cons h _ ih =>
   obtain⟨ao,cap,rfl,_⟩:=h
   refine⟨by simp only[List.flatten_cons,List.length_append,List.length_cons,List.length_nil,ih.1];omega,?_⟩
   intro u hu
   rw[List.flatten_cons,List.mem_append] at hu
   rcases hu with hu|hu
   ·simp only[List.mem_cons,List.not_mem_nil,or_false] at hu
    rcases hu with rfl|rfl|rfl|rfl<;>rfl
   ·exact ih.2 u hu
theorem own_reads {w:World}{base e k n:Nat}{v:Value}{xs:List Value}(h:w.ownsRow base e k v n xs):Reads w v n xs:=by
 have h0:=h
 rcases h.2 with⟨rfl,rfl⟩|⟨g,c,cur,rfl,_⟩
 ·refine .inl ⟨rfl,rfl,?_⟩
  have:=h.1
  simpa using this
 ·exact .inr ⟨_,c,rfl,fun j u hu=>h0.cells (g:=g) rfl j u hu⟩
end Go.Proofs.YthdjmldddjljfaaGreatDoor.V
