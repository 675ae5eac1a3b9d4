/-
  OUR OWN.
-/
import Derived.Test.YthdjmldddjljfaaGreatDoorH33
set_option maxHeartbeats 8000000
set_option maxRecDepth 20000
namespace Go.Proofs.YthdjmldddjljfaaGreatDoor.V
open Go.RowKit
attribute [local go_sem ↓] Go.wp_at_zero Go.wp_at_succ
theorem MdRow.keepX {base:Nat}{w w' : World}{v:Value}{L:List Md}(h:MdRow base w v L)(hk:∀g,base≤g→g<w.heap.size→w'.heap[g]? = w.heap[g]?)(hi:KpI w w'):MdRow base w' v L:=by
 obtain⟨css,h1,h2⟩:=h
 exact⟨css,own_far h1 (fun g hg hl=>hk g (own_ge h1 (Nat.le_refl _) g hg) hl),h2.mono (fun _ _ h=>h.keep hi)⟩
structure Set3 (R:Nat)(w w' : World):Prop where
 far:∀k,k≠R→w'.heap[k]? = w.heap[k]?
 size:w'.heap.size=w.heap.size
 ints:KpI w w'
theorem set3 {w:World}{R:Nat}{a b c:Value}(h:w.heap[R]? = some (.cells #[a,b,c] 164 (0,0)))(x y z:Value):Set3 R w (((w.setCell ⟨R,0,none⟩ x).setCell ⟨R,1,none⟩ y).setCell ⟨R,2,none⟩ z):=by
 have hf:∀k,k≠R→(((w.setCell ⟨R,0,none⟩ x).setCell ⟨R,1,none⟩ y).setCell ⟨R,2,none⟩ z).heap[k]? = w.heap[k]?:=fun k hk=>by
  rw[Below.heap_setCell _ _ _ _ hk,Below.heap_setCell _ _ _ _ hk,Below.heap_setCell _ _ _ _ hk]
 refine⟨hf,by simp[World.setCell],fun g cur hg=>?_⟩
 rw[hf g (fun e=>?_)]
 ·exact hg
 ·subst e
  rw[h] at hg
  simp only[Option.some.injEq,Obj.cells.injEq] at hg
  exact absurd hg.2.1 (by decide)
theorem below_set3 {B R:Nat}{a w:World}(h:Below B a w)(hR:B≤R)(x y z:Value):Below B a (((w.setCell ⟨R,0,none⟩ x).setCell ⟨R,1,none⟩ y).setCell ⟨R,2,none⟩ z):=((h.setCell (p:=⟨R,0,none⟩) hR x).setCell (p:=⟨R,1,none⟩) hR y).setCell (p:=⟨R,2,none⟩) hR z
theorem KpI.alloc (w:World)(o:Obj):KpI w (w.alloc o):=KpI.of_below (below_alloc w o)
theorem node_ext (base:Nat)(lv:Value)(L:List Th)(i n:Nat)(C:ByteArray)(M:List Md)(w:World)(hr:ThRow base w lv L)(hs:Short L)(h2:2≤L.length)(hL:L.length≤1000000000)(hn:shTh L=n)(hin:i<n)(hp:isP (((L.getD 0 th0).path.take n).drop i)=true)
  (ih:∀W,Below w.heap.size w W→Calls Tryz.prog 56 #[lv,.int .i64 (n:Int)] W (NodePost C M W)) (hC:C.size<32→Can 8 C) (hC6:C.size≤6000) (hH:(textC (hashOf C)).size≤6000) (hM:M.length≤1000000000)
  (hz:(listC [textC (codeOf false (((L.getD 0 th0).path.take n).drop i)),refC C]).size≤6000) :
  Calls Tryz.prog 56 #[lv,.int .i64 (i:Int)] w (NodePost (listC [textC (codeOf false (((L.getD 0 th0).path.take n).drop i)),refC C]) (⟨(L.getD 0 th0).path.take i,listC [textC (codeOf false (((L.getD 0 th0).path.take n).drop i)),refC C],decide (32≤(listC [textC (codeOf false (((L.getD 0 th0).path.take n).drop i)),refC C]).size)⟩ :: M) w):=by
 have HSh:=hide (shared_any base lv L w hr hs (by omega) hL)
 rw[hn] at HSh
 have hnl:n≤(L.getD 0 th0).path.length:=by rw[←hn];exact shTh_le
 have hx:=hs.at 0
 obtain⟨g,cap,qa,qc,rfl,hq,x0,x1,x2,_⟩:=hr.cellAt 0 (by omega)
 simp only[Nat.zero_mul,Nat.zero_add] at x0 x1 x2
 have HC:Hid (∀W,Below w.heap.size w W→W.cell? ⟨g,0,none⟩=some (.slice qa (L.getD 0 th0).path.length qc)):=fun W hW=>(hW.cell (p:=⟨g,0,none⟩) (World.block_lt_of_cell? w _ x0)).trans x0
 generalize L.getD 0 th0=x at *
 have hqc:=hq.cap
 have HQ:=hide hq
 have i0:(0:Int)≤(i:Int):=by omega
 have i1:(i:Int)<(n:Int):=by omega
 have i2:(x.path.length:Int)≤(qc:Int):=by omega
 have i3:(i:Int)≤(qc:Int):=by omega
 have i4:(n:Int)≤(qc:Int):=by omega
 have i5:(n:Int)≤(x.path.length:Int):=by omega
 have i6:(i:Int)≤(n:Int):=by omega
 have i9:(i:Int)≤(x.path.length:Int):=by omega
 have i7:((L.length:Int) == 1)=false:=by simp;omega
 have i8:¬qc=i:=by omega
 have i10:(0:Int)<(L.length:Int):=by omega
 have HTo:=hide (totS_two _ _ hz)
 have HPk:Hid (∀W,Below w.heap.size w W→Calls Tryz.prog 91 #[.slice (qa.map (fun x=>x.add i)) (n - i) (qc - i),.bool false] W fun e w' => e=.returned (.tuple #[.string (codeOf false ((x.path.take n).drop i)),.int .i64 0])∧Below W.heap.size W w'):=fun W hW=>by
  have h1:=rPack_drop ((HQ.out.keep (KpI.of_below hW)).take n) i false hp
  rwa [List.length_take,Nat.min_eq_left hnl] at h1
 have HIt:=hide (fun W=>item_any C W hC hC6 hH)
 have HIh:=hide ih
 generalize codeOf false ((x.path.take n).drop i)=cd at *
 have HT1:Hid ((textC cd).size≤6000):=by
  have h1:=HTo.out
  simp only[totS_eq,List.map_cons,List.map_nil,List.sum_cons,List.sum_nil] at h1
  show _≤_;omega
 generalize hcode:listC [textC cd,refC C]=code at *
 have HCo:=hide hcode
 unfold NodePost at *
 clear hr hs hq x0 x1 x2 hcode ih hC hp hz
 go_enter Tryz.func56,Tryz.ntmps56
 go_wp2_with fail
 refine HSh.out.mono ?_
 rintro e w1 ⟨rfl,hb1⟩
 have HB2:=hide (hb1.trans ((below_alloc w1 (.cells #[.bool false,.string ⟨#[]⟩,.slice none 0 0] 164)).mono hb1.size))
 have HZ1:Hid (w.heap.size≤w1.heap.size):=hb1.size
 have y0:=HC.out _ HB2.out
 clear hb1
 go_wp2_with fail
 refine (HPk.out _ HB2.out).mono ?_
 rintro e w2 ⟨rfl,hb2⟩
 clear y0
 obtain⟨_,k1,k2,k3⟩:=box3 hb2
 have k4:w1.heap.size<w2.heap.size:=(aGe.1 k1).1
 have HB3:Hid (Below w.heap.size w w2):=HB2.out.trans (hb2.mono HB2.out.size)
 have HK:=hide k1
 have HK4:=hide k4
 clear hb2 k1 k2 k3 k4
 go_wp2_with fail
 refine (HIh.out _ HB3.out).mono ?_
 rintro e w3 ⟨mv,rfl,hmv,hb3⟩
 have HB4:Hid (Below w.heap.size w w3):=HB3.out.trans (hb3.mono HB3.out.size)
 have HK3:Hid (w3.heap[w1.heap.size]? = some (.cells #[.bool false,.string ⟨#[]⟩,.slice none 0 0] 164 (0,0))):=(hb3.block _ HK4.out).trans HK.out
 have HZ3:Hid (w2.heap.size≤w3.heap.size):=hb3.size
 have HMv:=hide hmv
 clear hb3 hmv
 go_wp2_with fail
 refine (HIt.out _).mono ?_
 rintro e w4 ⟨l,b,ao,lo,lc,rfl,hit,hb4⟩
 have HIT:=hide hit
 have HB5:Hid (Below w.heap.size w w4):=HB4.out.trans (hb4.mono HB4.out.size)
 have k1:w4.heap[w1.heap.size]? = some (.cells #[.bool false,.string ⟨#[]⟩,.slice none 0 0] 164 (0,0)):=(hb4.block _ (Nat.lt_of_lt_of_le HK4.out HZ3.out)).trans HK3.out
 have HMv4:=hide (HMv.out.keep hb4)
 have k4:w1.heap.size<w4.heap.size:=(aGe.1 k1).1
 have k5:=frozen_of_row _ _ 0 _ _ k1
 have k6:=frozen_of_row _ _ 1 _ _ k1
 have k7:=frozen_of_row _ _ 2 _ _ k1
 have k8:w4.cell? ⟨w1.heap.size,0,none⟩=some (.bool false):=cell_of_row _ _ 0 _ _ (0,0) k1
 have k9:w4.cell? ⟨w1.heap.size,1,none⟩=some (.string ⟨#[]⟩):=cell_of_row _ _ 1 _ _ (0,0) k1
 have k10:w4.cell? ⟨w1.heap.size,2,none⟩=some (.slice none 0 0):=cell_of_row _ _ 2 _ _ (0,0) k1
 have HK5:=hide k1
 clear hit hb4 k1
 go_wp2_with fail
 have h3:=below_set3 HB5.out HZ1.out (.bool true) (.string ⟨#[]⟩) (.slice (some ⟨w4.heap.size,0,none⟩) 2 2)
 have hS:=set3 HK5.out (.bool true) (.string ⟨#[]⟩) (.slice (some ⟨w4.heap.size,0,none⟩) 2 2)
 generalize (((w4.setCell ⟨w1.heap.size,0,none⟩ (.bool true)).setCell ⟨w1.heap.size,1,none⟩ (.string ⟨#[]⟩)).setCell ⟨w1.heap.size,2,none⟩ (.slice (some ⟨w4.heap.size,0,none⟩) 2 2))=W3 at *
 have hnw:=heap_alloc_new W3 (.cells #[.bool false,.string cd,.slice none 0 0,.bool l,.string b,.slice ao lo lc] 164)
 rw[hS.size] at hnw
 have hkk:∀k,w3.heap.size≤k→k<w4.heap.size→(W3.alloc (.cells #[.bool false,.string cd,.slice none 0 0,.bool l,.string b,.slice ao lo lc] 164)).heap[k]? = w4.heap[k]?:=fun k h1 h2=>by
  rw[Below.heap_alloc _ _ _ (by rw[hS.size];exact h2)]
  exact hS.far k (by have:=HK4.out;have:=HZ3.out;omega)
 have HCn:=code_new w4.heap.size [.bool false,.string cd,.slice none 0 0,.bool l,.string b,.slice ao lo lc] 2 [[.bool false,.string cd,.slice none 0 0],[.bool l,.string b,.slice ao lo lc]] [textC cd,refC C] _ (fun k=>w3.heap.size≤k) hnw rfl rfl (by decide) (.cons (ItO.text 8 _ _ _ HT1.out) (.cons (HIT.out.keep (fun k h1 h2=>⟨hkk k h1 h2,h1⟩)) .nil)) HTo.out
 rw[HCo.out] at HCn
 have HMv5:Hid (MdRow w2.heap.size (W3.alloc (.cells #[.bool false,.string cd,.slice none 0 0,.bool l,.string b,.slice ao lo lc] 164)) mv M):=HMv4.out.keepX (fun k h1 h2=>by
  rw[Below.heap_alloc _ _ _ (by rw[hS.size];exact h2)]
  exact hS.far k (by have:=HK4.out;omega)) (hS.ints.trans (KpI.alloc _ _))
 refine HCn.mono ?_
 rintro e w5 ⟨rfl,hb5⟩
 have h4:=h3.trans ((below_alloc W3 (.cells #[.bool false,.string cd,.slice none 0 0,.bool l,.string b,.slice ao lo lc] 164)).mono h3.size)
 have HB6:Hid (Below w.heap.size w w5):=h4.trans (hb5.mono h4.size)
 have HMv6:=hide (HMv5.out.keep hb5)
 clear HCn hnw h3 h4 hb5 hkk hS
 have y0:=HC.out _ HB6.out
 have HMd:=hide (MdRow.one w.heap.size w5 qa qc (x.path.take i) code (decide (32≤code.size)) i (by simp;omega) HB6.out.size ((HQ.out.keep (KpI.of_below HB6.out)).take i))
 have HDc:Hid (decide (32≤code.size)=decide ((32:Int)≤(code.size:Int))):=by show _=_;rw[decide_eq_decide];omega
 rw[HDc.out] at HMd
 clear k4 k5 k6 k7 k8 k9 k10
 go_wp2_with (at_builtin;go_must (refine wpList_append_md rfl _ _ rfl w.heap.size w2.heap.size _ _ rfl HMd.out _ M rfl (HMv6.out.keep (below_alloc _ _)) (by simp only[List.length_cons,List.length_nil];omega) (Nat.le_trans HB6.out.size (below_alloc _ _).size) ?_);intro v6 w6 hr6 hg6 hk6 hkp6;go_must (have HX6:=hide (And.intro hr6 (Below.grown (HB6.out.trans ((below_alloc _ _).mono HB6.out.size)) hg6 (Nat.le_trans HB6.out.size (below_alloc _ _).size) hk6)));clear hr6 hg6 hk6 hkp6)
 go_ret2
 refine⟨v6,rfl,?_,HX6.out.2⟩
 rw[HDc.out]
 exact HX6.out.1
def inK (i k:Nat)(x:Th):Bool:=decide (i<x.path.length) && decide (x.path.getD i 0=(k:Int))
def partK (L:List Th)(i k:Nat):List Th:=L.filter (inK i k)
def brT (L:List Th)(i:Nat)(C:Nat→ByteArray)(k:Nat):ByteArray:=if (partK L i k).isEmpty then textC eB else refC (C k)
def brM (L:List Th)(i:Nat)(M:Nat→List Md)(k:Nat):List Md:=if (partK L i k).isEmpty then [] else M k
def valAt (L:List Th)(P:List Int):ByteArray:=if L.any (atF P) then (L.getD (L.findIdx (atF P)) th0).value else eB
def brTs (L:List Th)(i:Nat)(C:Nat→ByteArray)(k:Nat):List ByteArray:=(List.range 16).map (fun j=>if j<k then brT L i C j else textC eB)++[textC eB]
theorem flat_set3:∀(css:List (List Value)) (k:Nat) (a b c:Value),(∀x∈css,x.length=3)→k<css.length→(css.set k [a,b,c]).flatten=((css.flatten.set (k*3) a).set (k*3+1) b).set (k*3+2) c
 | [],k,_,_,_,_,h=>by simp at h
 | x :: r,0,a,b,c,h,_=>by
   have hx:=h x (List.mem_cons_self ..)
   match x,hx with
   | [u,v,z],_=>simp
 | x :: r,k+1,a,b,c,h,hk=>by
   have hx:=h x (List.mem_cons_self ..)
   have ih:=flat_set3 r k a b c (fun y hy=>h y (List.mem_cons_of_mem _ hy)) (by simpa using hk)
   match x,hx with
   | [u,v,z],_ =>
     rw[List.set_cons_succ,List.flatten_cons,ih,List.flatten_cons]
     have e:(k+1)*3=k*3+3:=by omega
     rw[e]
     simp
theorem heap_set3 {w:World}{X:Nat}{css:List (List Value)}{T:TypeId}(h:w.heap[X]? = some (.cells css.flatten.toArray T (0,0)))(h3:∀x∈css,x.length=3){k:Nat}(hk:k<css.length)(a b c:Value) :
  (((w.setCell ⟨X,k*3,none⟩ a).setCell ⟨X,k*3+1,none⟩ b).setCell ⟨X,k*3+2,none⟩ c).heap[X]? = some (.cells (css.set k [a,b,c]).flatten.toArray T (0,0)):=by
 have h1:=heap_setCell_same w X (k*3) _ T a h
 have h2:=heap_setCell_same _ X (k*3+1) _ T b h1
 have h4:=heap_setCell_same _ X (k*3+2) _ T c h2
 rw[h4,flat_set3 css k a b c h3 hk]
 simp
theorem al_set {α β:Type}{R:α→β→Prop}{l:List α}{m:List β}(h:Al R l m)(k:Nat){a:α}{b:β}(hab:R a b):Al R (l.set k a) (m.set k b):=by
 induction h generalizing k with
 | nil=>simp;exact .nil
 | cons h1 h2 ih =>
   cases k with
   | zero=>exact .cons hab h2
   | succ k=>exact .cons h1 (ih k)
theorem brTs_set (L:List Th)(i:Nat)(C:Nat→ByteArray){k:Nat}(hk:k<16):(brTs L i C k).set k (brT L i C k)=brTs L i C (k+1):=by
 unfold brTs
 rw[List.set_append,if_pos (by simpa using hk)]
 congr 1
 apply List.ext_getElem
 ·simp
 ·intro j h1 h2
  have hj:j<16:=by simpa using h2
  rw[List.getElem_set]
  simp only[List.getElem_map,List.getElem_range]
  by_cases e:k=j
  ·subst e;simp
  ·rw[if_neg e]
   by_cases e2:j<k
   ·rw[if_pos e2,if_pos (by omega)]
   ·rw[if_neg e2,if_neg (by omega)]
theorem brTs_skip (L:List Th)(i:Nat)(C:Nat→ByteArray){k:Nat}(he:(partK L i k).isEmpty=true):brTs L i C (k+1)=brTs L i C k:=by
 unfold brTs
 congr 1
 apply List.map_congr_left
 intro j _
 by_cases e:j<k
 ·rw[if_pos e,if_pos (by omega)]
 ·rw[if_neg e]
  by_cases e2:j<k+1
  ·obtain rfl:j=k:=by omega
   rw[if_pos e2];unfold brT;rw[if_pos he]
  ·rw[if_neg e2]
theorem brTs_end (L:List Th)(i:Nat)(C:Nat→ByteArray)(v:ByteArray):(brTs L i C 16).set 16 (textC v)=(List.range 16).map (brT L i C)++[textC v]:=by
 unfold brTs
 rw[List.set_append,if_neg (by simp)]
 have e:(List.range 16).map (fun j=>if j<16 then brT L i C j else textC eB)=(List.range 16).map (brT L i C):=by
  apply List.map_congr_left
  intro j hj
  rw[if_pos (List.mem_range.1 hj)]
 rw[e]
 simp
theorem brTs_end0 (L:List Th)(i:Nat)(C:Nat→ByteArray):brTs L i C 16=(List.range 16).map (brT L i C)++[textC eB]:=by
 unfold brTs
 congr 1
structure Mk (R X:Nat)(w:World)(css:List (List Value))(ts:List ByteArray):Prop where
 box:w.heap[R]? = some (.cells #[.bool true,.string ⟨#[]⟩,.slice (some ⟨X,0,none⟩) 17 17] 164 (0,0))
 row:w.heap[X]? = some (.cells css.flatten.toArray 164 (0,0))
 its:Al (ItO 8 w (fun k=>X<k)) css ts
 lt:R<X
theorem ItO.len3 {w:World}{ok:Nat→Prop}{r:Nat}{cs:List Value}{t:ByteArray}(h:ItO r w ok cs t):cs.length=3:=h.b.len3
theorem al3 {w:World}{ok:Nat→Prop}{r:Nat}{css:List (List Value)}{ts:List ByteArray}(h:Al (ItO r w ok) css ts):∀x∈css,x.length=3:=by
 induction h with
 | nil=>intro x hx;cases hx
 | cons h _ ih =>
   intro x hx
   rcases List.mem_cons.1 hx with rfl|hx
   ·exact h.len3
   ·exact ih x hx
theorem Mk.keep {R X:Nat}{w w' : World}{css:List (List Value)}{ts:List ByteArray}(h:Mk R X w css ts)(hb:Below w.heap.size w w'):Mk R X w' css ts :=
 ⟨(hb.block R (aGe.1 h.box).1).trans h.box,(hb.block X (aGe.1 h.row).1).trans h.row,h.its.mono (fun _ _ h=>h.keep (fun k hk hl=>⟨hb.block k hl,hk⟩)),h.lt⟩
theorem Mk.set {R X:Nat}{w:World}{css:List (List Value)}{ts:List ByteArray}(h:Mk R X w css ts){k:Nat}(hk:k<css.length){a b c:Value}{t:ByteArray}(hi:ItO 8 w (fun k=>X<k) [a,b,c] t) :
  Mk R X (((w.setCell ⟨X,k*3,none⟩ a).setCell ⟨X,k*3+1,none⟩ b).setCell ⟨X,k*3+2,none⟩ c) (css.set k [a,b,c]) (ts.set k t):=by
 have hf:∀g,g≠X→(((w.setCell ⟨X,k*3,none⟩ a).setCell ⟨X,k*3+1,none⟩ b).setCell ⟨X,k*3+2,none⟩ c).heap[g]? = w.heap[g]?:=fun g hg=>by
  rw[Below.heap_setCell _ _ _ _ hg,Below.heap_setCell _ _ _ _ hg,Below.heap_setCell _ _ _ _ hg]
 refine⟨(hf R (by have:=h.lt;omega)).trans h.box,heap_set3 h.row (al3 h.its) hk a b c,?_,h.lt⟩
 exact (al_set h.its k hi).mono (fun _ _ h=>h.keep (fun g hg _=>⟨hf g (by omega),hg⟩))
theorem setX_ints {w:World}{X:Nat}{cur:Array Value}(h:w.heap[X]? = some (.cells cur 164 (0,0))){x y z:Value}{p q r:Nat}:KpI w (((w.setCell ⟨X,p,none⟩ x).setCell ⟨X,q,none⟩ y).setCell ⟨X,r,none⟩ z):=fun g c hg=>by
 have hne:g≠X:=fun e=>by
  subst e
  rw[h] at hg
  simp only[Option.some.injEq,Obj.cells.injEq] at hg
  exact absurd hg.2.1 (by decide)
 rw[Below.heap_setCell _ _ _ _ hne,Below.heap_setCell _ _ _ _ hne,Below.heap_setCell _ _ _ _ hne]
 exact hg
def brCode (L:List Th)(i:Nat)(C:Nat→ByteArray)(P:List Int):ByteArray:=listC ((List.range 16).map (brT L i C)++[textC (valAt L P)])
def css0:List (List Value):=List.replicate 17 [.bool false,.string ⟨#[]⟩,.slice none 0 0]
def row0:Array Value:=css0.flatten.toArray
theorem make_its (w:World):(Instr.makeSlice 162 (.int .i64 17) (.int .i64 17)).run Tryz.prog w=.ok (.slice (some ⟨w.heap.size,0,none⟩) 17 17) (w.alloc (.cells row0 164)):=by
 obtain⟨i0,hi,hz0,hz1,hz2⟩:=info_parts infoIt
 have h:=run_make (P:=Tryz.prog) w 162 164 i0 it0 Tryz.underlying162 hi hz0 .i64 .i64 17 17 (by omega) (by omega) (by rw[hz2];omega) (by omega)
 rw[hz1] at h
 have e:madeCells it0.cells (Int.toNat 17 * 3)=row0:=by kernel_rfl
 rw[e] at h
 exact h
theorem al_rep {α β:Type}{R:α→β→Prop}{a:α}{b:β}(h:R a b):∀n,Al R (List.replicate n a) (List.replicate n b)
 | 0=>.nil
 | n+1=>.cons h (al_rep h n)
theorem mk0 (w:World)(L:List Th)(i:Nat)(C:Nat→ByteArray):Mk w.heap.size (w.heap.size+1) ((w.alloc (.cells #[.bool true,.string ⟨#[]⟩,.slice (some ⟨w.heap.size+1,0,none⟩) 17 17] 164)).alloc (.cells row0 164)) css0 (brTs L i C 0):=by
 have h1:=heap_alloc_new w (.cells #[.bool true,.string ⟨#[]⟩,.slice (some ⟨w.heap.size+1,0,none⟩) 17 17] 164)
 have h2:=heap_alloc_new (w.alloc (.cells #[.bool true,.string ⟨#[]⟩,.slice (some ⟨w.heap.size+1,0,none⟩) 17 17] 164)) (.cells row0 164)
 refine⟨(Below.heap_alloc _ _ _ (by simp)).trans h1,?_,al_rep (ItO.text 8 _ _ eB (by decide)) 17,Nat.lt_succ_self _⟩
 simpa[row0] using h2
theorem ThRow.rdOne {base:Nat}{w:World}{v:Value}{L:List Th}(h:ThRow base w v L){j:Nat}(hj:j<L.length)(hn:(L.getD j th0).hash=⟨#[]⟩):∃g cap qa qc,v=.slice (some ⟨g,0,none⟩) L.length cap∧w.cell? ⟨g,j*4,none⟩=some (.slice qa (L.getD j th0).path.length qc)∧w.cell? ⟨g,j*4+1,none⟩=some (.string (L.getD j th0).value)∧w.cell? ⟨g,j*4+2,none⟩=some (.string ⟨#[]⟩)∧w.cell? ⟨g,j*4+3,none⟩=some (.bool (L.getD j th0).under)∧PSl w qa qc (L.getD j th0).path ∧
  ThRd (w.alloc (.cells #[.slice qa (L.getD j th0).path.length qc,.string (L.getD j th0).value,.string ⟨#[]⟩,.bool (L.getD j th0).under] 118)) (.slice (some ⟨w.heap.size,0,none⟩) 1 1) [L.getD j th0]:=by
 obtain⟨g,cap,qa,qc,hv,hq,x0,x1,x2,x3⟩:=h.cellAt j hj
 rw[hn] at x2
 refine⟨g,cap,qa,qc,hv,x0,x1,x2,x3,hq,?_⟩
 have hnw:=heap_alloc_new w (.cells #[.slice qa (L.getD j th0).path.length qc,.string (L.getD j th0).value,.string ⟨#[]⟩,.bool (L.getD j th0).under] 118)
 refine⟨[[.slice qa (L.getD j th0).path.length qc,.string (L.getD j th0).value,.string (L.getD j th0).hash,.bool (L.getD j th0).under]],.inr ⟨_,1,rfl,fun n u hu=>?_⟩,.cons ⟨qa,qc,rfl,hq.keep (KpI.of_below (below_alloc _ _))⟩ .nil⟩
 rw[hn] at hu
 exact World.news_of_block hnw n u (by simpa using hu)
def KpIt (w w' : World):Prop:=∀(g:Nat) (cur:Array Value),w.heap[g]? = some (.cells cur 164 (0,0))→w'.heap[g]? = some (.cells cur 164 (0,0))
theorem KpIt.of_grown {w w' : World}{base e k n:Nat}{v:Value}{xs:List Value}(ho:w.ownsRow base e k v n xs)(he:e≠164)(hg:w.grownBy w' v.ownBlock):KpIt w w' := fun g cur hc=>by
 rw[hg.block g (aGe.1 hc).1]
 ·exact hc
 ·intro hb
  rcases ho.2 with⟨rfl,_⟩|⟨g', c,cur', rfl,_,h3,_⟩
  ·cases hb
  ·obtain rfl:g=g' := by simpa[Value.ownBlock] using hb
   rw[hc] at h3
   simp only[Option.some.injEq,Obj.cells.injEq] at h3
   exact he h3.2.1.symm
theorem ItO.keepT {w w' : World}{ok:Nat→Prop}(hk:KpIt w w'):∀{r:Nat} {cs:List Value} {t:ByteArray},ItO r w ok cs t→ItO r w' ok cs t
 | 0,_,_,h=>h
 | r+1,cs,t,h=>by
   rcases h with h|⟨v,css,ts,h1,h2,h3,ho,h4⟩
   ·exact .inl h
   ·refine .inr ⟨v,css,ts,h1,h2,⟨h3.1,?_⟩,ho,h4.mono (fun _ _ h=>ItO.keepT hk h)⟩
    rcases h3.2 with h5|⟨g,c,cur,a1,a2,a3,a4⟩
    ·exact .inl h5
    ·exact .inr ⟨g,c,cur,a1,a2,hk g cur a3,a4⟩
theorem Mk.keepT {R X:Nat}{w w' : World}{css:List (List Value)}{ts:List ByteArray}(h:Mk R X w css ts)(hk:KpIt w w'):Mk R X w' css ts :=
 ⟨hk _ _ h.box,hk _ _ h.row,h.its.mono (fun _ _ h=>h.keepT hk),h.lt⟩
theorem totS_list {ts:List ByteArray}(h:(listC ts).size≤6000):totS ts≤6000:=by
 have h1:=headS_ge 192 (joinB ts)
 have h2:(joinB ts).size=totS ts:=joinB_size _
 unfold listC at h
 omega
theorem brTs_len (L:List Th)(i:Nat)(C:Nat→ByteArray)(k:Nat):(brTs L i C k).length=17:=by simp[brTs]
theorem Mk.len {R X:Nat}{w:World}{css:List (List Value)}{L:List Th}{i j:Nat}{C:Nat→ByteArray}(h:Mk R X w css (brTs L i C j)):css.length=17:=by
 have:=h.its.len
 rw[brTs_len] at this;exact this
theorem Mk.cells {R X:Nat}{w:World}{css:List (List Value)}{L:List Th}{i j:Nat}{C:Nat→ByteArray}(h:Mk R X w css (brTs L i C j)){k:Nat}(hk:k<17) :
  ∃a b c,w.cell? ⟨X,k*3,none⟩=some a∧w.cell? ⟨X,k*3+1,none⟩=some b∧w.cell? ⟨X,k*3+2,none⟩=some c∧w.frozen? ⟨X,k*3,none⟩=false∧w.frozen? ⟨X,k*3+1,none⟩=false∧w.frozen? ⟨X,k*3+2,none⟩=false:=by
 have hl:css.flatten.length=51:=by
  have h3:=al3 h.its
  have h17:=h.len
  have:∀(l:List (List Value)),(∀x∈l,x.length=3)→l.flatten.length=l.length*3:=by
   intro l
   induction l with
   | nil=>intro _;rfl
   | cons x r ih=>intro hx;rw[List.flatten_cons,List.length_append,ih (fun y hy=>hx y (List.mem_cons_of_mem _ hy)),hx x (List.mem_cons_self ..),List.length_cons];omega
  rw[this css h3,h17]
 have hc:∀n,n<51→∃a,w.cell? ⟨X,n,none⟩=some a:=fun n hn=>⟨_,(cell_of_row _ _ n _ _ (0,0) h.row).trans (Array.getElem?_eq_getElem (by simpa[hl] using hn))⟩
 obtain⟨a,ha⟩:=hc (k*3) (by omega)
 obtain⟨b,hb⟩:=hc (k*3+1) (by omega)
 obtain⟨c,hc'⟩:=hc (k*3+2) (by omega)
 exact⟨a,b,c,ha,hb,hc', frozen_of_row _ _ _ _ _ h.row,frozen_of_row _ _ _ _ _ h.row,frozen_of_row _ _ _ _ _ h.row⟩
theorem node_br (base:Nat)(lv:Value)(L:List Th)(i:Nat)(C:Nat→ByteArray)(M:Nat→List Md)(w:World)(hr:ThRow base w lv L)(hs:Short L)(hno:NoHash L)(h2:2≤L.length)(hL:L.length≤1000000000)(hn:shTh L=i)
  (ih:∀k,k<16→(partK L i k).isEmpty=false→∀b pv W,Below w.heap.size w W→ThRow b W pv (partK L i k)→Calls Tryz.prog 56 #[pv,.int .i64 ((i:Int)+1)] W (NodePost (C k) (M k) W))
  (hC:∀k,k<16→(partK L i k).isEmpty=false→((C k).size<32→Can 8 (C k))∧(C k).size≤6000∧(textC (hashOf (C k))).size≤6000) (hM:∀k,k≤16→((List.range k).flatMap (brM L i M)).length≤1000000000) (hM1:∀k,k<16→(M k).length≤1000000000)
  (hz:(brCode L i C ((L.getD 0 th0).path.take i)).size≤6000) :
  Calls Tryz.prog 56 #[lv,.int .i64 (i:Int)] w (NodePost (brCode L i C ((L.getD 0 th0).path.take i)) (⟨(L.getD 0 th0).path.take i,brCode L i C ((L.getD 0 th0).path.take i),decide (32≤(brCode L i C ((L.getD 0 th0).path.take i)).size)⟩ :: (List.range 16).flatMap (brM L i M)) w):=by
 have HSh:=hide (shared_any base lv L w hr hs (by omega) hL)
 rw[hn] at HSh
 have hnl:i≤(L.getD 0 th0).path.length:=by rw[←hn];exact shTh_le
 have hx:=hs.at 0
 obtain⟨g,cap,qa,qc,rfl,hq,x0,_,_,_⟩:=hr.cellAt 0 (by omega)
 simp only[Nat.zero_mul] at x0
 have HC:Hid (∀W,Below w.heap.size w W→W.cell? ⟨g,0,none⟩=some (.slice qa (L.getD 0 th0).path.length qc)):=fun W hW=>(hW.cell (p:=⟨g,0,none⟩) (World.block_lt_of_cell? w _ x0)).trans x0
 generalize L.getD 0 th0=x at *
 have hqc:=hq.cap
 have HQ:=hide hq
 have HR:=hide hr
 have HS:=hide hs
 have HN:=hide hno
 have HIh:=hide ih
 have HCs:=hide hC
 have HMs:=hide hM
 have HM1:=hide hM1
 have i0:(0:Int)≤(i:Int):=by omega
 have ib:i≤128:=by omega
 have i2:(x.path.length:Int)≤(qc:Int):=by omega
 have i3:(i:Int)≤(qc:Int):=by omega
 have i9:(i:Int)≤(x.path.length:Int):=by omega
 have i7:((L.length:Int) == 1)=false:=by simp;omega
 have i10:(0:Int)<(L.length:Int):=by omega
 have HTo:Hid (totS ((List.range 16).map (brT L i C)++[textC (valAt L (x.path.take i))])≤6000):=totS_list hz
 have HTv:Hid ((textC (valAt L (x.path.take i))).size≤6000):=by
  have h1:=HTo.out
  rw[totS_eq,List.map_append,List.sum_append] at h1
  simp only[List.map_cons,List.map_nil,List.sum_cons,List.sum_nil] at h1
  show _≤_;omega
 have HCo0:Hid (listC ((List.range 16).map (brT L i C)++[textC (valAt L (x.path.take i))])=brCode L i C (x.path.take i)):=rfl
 generalize hcode:brCode L i C (x.path.take i)=code at *
 have HCo:=HCo0
 unfold NodePost at *
 clear hr hs hq x0 ih hC hM hM1 hno hcode HCo0
 go_enter Tryz.func56,Tryz.ntmps56
 go_wp2_with fail
 refine HSh.out.mono ?_
 rintro e w1 ⟨rfl,hb1⟩
 have HB2:=hide (hb1.trans ((below_alloc w1 (.cells #[.bool false,.string ⟨#[]⟩,.slice none 0 0] 164)).mono hb1.size))
 have HZ1:Hid (w.heap.size≤w1.heap.size):=hb1.size
 have HB1:=hide hb1
 clear hb1
 have hmk:=make_its (w1.alloc (.cells #[.bool false,.string ⟨#[]⟩,.slice none 0 0] 164))
 go_wp2_with fail
 have hM0:=mk0 w1 L i C
 have hB0:Below w.heap.size w ((w1.alloc (.cells #[.bool true,.string ⟨#[]⟩,.slice (some ⟨w1.heap.size+1,0,none⟩) 17 17] 164)).alloc (.cells row0 164)):=(HB1.out.alloc HB1.out.size _).alloc (Nat.le_trans HB1.out.size (by simp)) _
 have HM0:=hide hM0
 have HB0:=hide hB0
 clear hmk hM0 hB0 HB2 HB1
 generalize ((w1.alloc (.cells #[.bool true,.string ⟨#[]⟩,.slice (some ⟨w1.heap.size+1,0,none⟩) 17 17] 164)).alloc (.cells row0 164))=W0 at *
 generalize w1.heap.size=R at *
 generalize R+1=X at *
 go_loopw [8,17] (fun av kv wr=>∃(k:Nat) (css:List (List Value)),k≤16∧kv=.int .i64 (k:Int)∧MdRow (X+1) wr av ((List.range k).flatMap (brM L i M))∧Mk R X wr css (brTs L i C k)∧Below w.heap.size w wr) (fun _ kv _=>16 - (intOf kv).toNat)
 case atStart=>exact⟨0,css0,by omega,rfl,MdRow.nil _ _,HM0.out,HB0.out⟩
 case round =>
  obtain⟨k,css,hk,rfl,hmd,hmk,hbw⟩:=hrel
  have HMd:=hide hmd
  have HMk:=hide hmk
  have HB:=hide hbw
  clear hmd hmk hbw
  obtain⟨wk,hwk⟩:∃wk,wk=wr:=⟨_,rfl⟩
  subst hwk
  have k0:(0:Int)≤(k:Int):=by omega
  by_cases hk16:k<16
  ·have k1:(k:Int)<16:=by omega
   go_wp2_with fail
   go_loopw [18,19] (fun pv jv wr' => ∃j:Nat,j≤L.length∧jv=.int .i64 (j:Int)∧ThRow wk.heap.size wr' pv ((L.take j).filter (inK i k))∧Below wk.heap.size wk wr') (fun _ jv _=>L.length - (intOf jv).toNat)
   case atStart=>exact⟨0,by omega,rfl,ThRow.nil _ _,Below.refl _ _⟩
   case round =>
    obtain⟨j,hj,rfl,hrow,hbj⟩:=hrel
    have HRow:=hide hrow
    have HBj:=hide hbj
    have HBw:Hid (Below w.heap.size w wr):=HB.out.trans (hbj.mono HB.out.size)
    clear hrow hbj
    have j0:(0:Int)≤(j:Int):=by omega
    by_cases hjl:j<L.length
    ·have j1:(j:Int)<(L.length:Int):=by omega
     obtain⟨g', cap', pa,pc,hv,x0,x1,x2,x3,hp,hrd⟩:=(HR.out.keep HBw.out).rdOne hjl (HN.out.at j)
     obtain⟨rfl,rfl⟩:g=g' ∧ cap=cap' := by simpa using hv
     have HSn:Hid ((L.take (j+1)).filter (inK i k)=(L.take j).filter (inK i k)++(if inK i k (L.getD j th0)=true then [L.getD j th0] else [])):=by
      show _=_
      rw[List.take_succ_eq_append_getElem hjl,List.filter_append,List.getD_eq_getElem?_getD,List.getElem?_eq_getElem hjl]
      simp[List.filter_cons]
     have HLt:Hid (((L.take j).filter (inK i k)).length≤1000000000):=by
      show _≤_
      have:=List.length_filter_le (inK i k) (L.take j)
      simp at this;omega
     have hIn:inK i k (L.getD j th0)=(decide (i<(L.getD j th0).path.length) && decide ((L.getD j th0).path.getD i 0=(k:Int))):=rfl
     generalize L.getD j th0=y at *
     have HRd:=hide hrd
     clear hrd hv
     by_cases hd1:i<y.path.length
     ·have d1:(i:Int)<(y.path.length:Int):=by omega
      obtain⟨g1,o1,rfl,hc1⟩:=hp.cellAt (by omega)
      have c1:=hc1 i hd1
      clear hc1
      rw[decide_eq_true hd1,Bool.true_and] at hIn
      generalize y.path.getD i 0=a at *
      by_cases hak:a=(k:Int)
      ·have e1:(a == (k:Int))=true:=by simpa using hak
       have HI:Hid (inK i k y=true):=by show _=_;rw[hIn];simpa using hak
       clear hIn hak
       go_wp2_with (at_builtin;go_must (refine wpList_append_rd rfl _ _ rfl _ _ _ rfl (HRow.out.keep (below_alloc _ _)) _ [y] rfl HRd.out (by have:=HLt.out;simp only[List.length_cons,List.length_nil];omega) (Nat.le_trans HBj.out.size (below_alloc _ _).size) ?_);intro v9 w9 hr9 hg9 ho9 hk9;go_must (have HX9:=hide (And.intro hr9 (Below.grown (HBj.out.trans ((below_alloc _ _).mono HBj.out.size)) hg9 (Nat.le_trans HBj.out.size (below_alloc _ _).size) ho9)));clear hr9 hg9 ho9 hk9)
       go_roundw
       case rel =>
        refine⟨j+1,by omega,by go_num,?_,HX9.out.2⟩
        rw[HSn.out,if_pos HI.out]
        exact HX9.out.1
       case measure=>simp[intOf];omega
      ·have e1:(a == (k:Int))=false:=by simpa using hak
       have HI:Hid (¬inK i k y=true):=by show ¬_;rw[hIn];simpa using hak
       clear hIn hak
       go_wp2
       go_roundw
       case rel =>
        refine⟨j+1,by omega,by go_num,?_,HBj.out⟩
        rw[HSn.out,if_neg HI.out,List.append_nil]
        exact HRow.out
       case measure=>simp[intOf];omega
     ·have d1:¬(i:Int)<(y.path.length:Int):=by omega
      have HI:Hid (¬inK i k y=true):=by show ¬_;rw[hIn,decide_eq_false hd1];simp
      clear hIn
      go_wp2
      go_roundw
      case rel =>
       refine⟨j+1,by omega,by go_num,?_,HBj.out⟩
       rw[HSn.out,if_neg HI.out,List.append_nil]
       exact HRow.out
      case measure=>simp[intOf];omega
    ·obtain rfl:j=L.length:=by omega
     have HTl:Hid ((L.take L.length).filter (inK i k)=partK L i k):=by show _=_;rw[List.take_length];rfl
     rw[HTl.out] at HRow
     have HMk1:=hide (HMk.out.keep HBj.out)
     have HMd1:=hide (HMd.out.keep HBj.out)
     clear HMk HMd HTl
     have HNp:Hid (NoHash (partK L i k)):=fun y hy=>HN.out y (List.mem_filter.1 hy).1
     have HFs:Hid ((List.range (k+1)).flatMap (brM L i M)=(List.range k).flatMap (brM L i M)++brM L i M k):=by show _=_;rw[List.range_succ,List.flatMap_append];simp
     have HLp:Hid ((partK L i k).length≤1000000000):=by
      show _≤_
      have:=List.length_filter_le (inK i k) L
      unfold partK;omega
     have hLp:(partK L i k).length≤1000000000:=HLp.out
     obtain⟨po,pcp,rfl⟩:=HRow.out.shape
     by_cases hem:(partK L i k).isEmpty=true
     ·have l0:(((partK L i k).length:Int) == 0)=true:=by simpa using hem
      have HS2:=hide (brTs_skip L i C hem)
      have HBm:Hid (brM L i M k=[]):=if_pos hem
      clear hem hLp
      go_wp2
      go_roundw
      case rel =>
       refine⟨k+1,css,by omega,by go_num,?_,?_,HBw.out⟩
       ·rw[HFs.out,HBm.out,List.append_nil];exact HMd1.out
       ·rw[HS2.out];exact HMk1.out
      case measure=>simp[intOf];omega
     ·have hem2:(partK L i k).isEmpty=false:=by simpa using hem
      have hpos:0 < (partK L i k).length:=by
       cases hp:partK L i k with
       | nil=>rw[hp] at hem;simp at hem
       | cons _ _=>simp
      have l0:(((partK L i k).length:Int) == 0)=false:=beq_false_of_ne (by omega)
      have HBm:Hid (brM L i M k=M k∧brT L i C k=refC (C k)):=⟨if_neg hem,if_neg hem⟩
      have HND:=hide (HIh.out k hk16 hem2 wk.heap.size _ _ HBw.out HRow.out)
      obtain⟨hc1,hc2,hc3⟩:=HCs.out k hk16 hem2
      have HIt:=hide (fun W=>item_any (C k) W hc1 hc2 hc3)
      have hM2:=HM1.out k hk16
      obtain⟨gp,_,_,_,hv,p0,_,p2,_,_,_⟩:=HRow.out.rdOne hpos (HNp.out.at 0)
      have hpo:po=some ⟨gp,0,none⟩:=by injection hv
      subst hpo
      rw[Nat.zero_mul] at p0 p2
      rw[Nat.zero_add] at p2
      have m0:(0:Int)<((partK L i k).length:Int):=by omega
      have hXl:X<wr.heap.size:=(aGe.1 HMk1.out.row).1
      clear hem hem2 hc1 hc2 hc3 hv
      generalize partK L i k=PK at *
      have hone:((PK.length:Int) == 1)=true∨((PK.length:Int) == 1)=false:=by cases ((PK.length:Int) == 1)<;>simp
      rcases hone with l1|l1
      all_goals
       go_wp2_with fail
       refine HND.out.mono ?_
       rintro e w4 ⟨mv,rfl,hmv,hb4⟩
       have HMv:=hide hmv
       have HMk4:=hide (HMk1.out.keep hb4)
       have HMd4:=hide (HMd1.out.keep hb4)
       have HB4:Hid (Below w.heap.size w w4):=HBw.out.trans (hb4.mono HBw.out.size)
       have HX4:Hid (X<w4.heap.size∧wr.heap.size≤w4.heap.size):=⟨Nat.lt_of_lt_of_le hXl hb4.size,hb4.size⟩
       have d4:w4.cell? ⟨R,2,none⟩=some (.slice (some ⟨X,0,none⟩) 17 17):=cell_of_row _ _ 2 _ _ (0,0) HMk4.out.box
       have k17:(k:Int)<17:=by omega
       clear hmv hb4 p0 p2 m0 l0 l1
       go_wp2_with fail
       go_region_with ((go_at_call 92;refine (HIt.out _).mono ?_;rintro e w5 ⟨l,b,ao,lo,lc,rfl,hit,hb5⟩;have HB5:Hid (Below w4.heap.size w4 w5):=(by first|exact hb5|exact (Below.refl _ _).drew.trans hb5);have HI5:Hid (ItO 8 w5 (fun g=>X<g) [.bool l,.string b,.slice ao lo lc] (refC (C k))):=hit.keep (fun g hg _=>⟨rfl,Nat.lt_of_lt_of_le HX4.out.1 hg⟩);have d5:w5.cell? ⟨R,2,none⟩=some (.slice (some ⟨X,0,none⟩) 17 17):=cell_of_row _ _ 2 _ _ (0,0) (HMk4.out.keep HB5.out).box;obtain⟨a0,a1,a2,s0,s1,s2,f0,f1,f2⟩:=(HMk4.out.keep HB5.out).cells (Nat.lt_succ_of_lt hk16);clear hit hb5))
       all_goals
        have hlt:=HMk4.out.lt
        have hM6:=(HMk4.out.keep HB5.out).set (k:=k) (by rw[HMk4.out.len];omega) HI5.out
        rw[←HBm.out.2,brTs_set L i C hk16] at hM6
        have hD6:=(HMd4.out.keep HB5.out).keepX (w' := ((w5.setCell ⟨X,k*3,none⟩ (.bool l)).setCell ⟨X,k*3+1,none⟩ (.string b)).setCell ⟨X,k*3+2,none⟩ (.slice ao lo lc)) (fun g h1 _=>by rw[Below.heap_setCell _ _ _ _ (show g≠X by omega),Below.heap_setCell _ _ _ _ (show g≠X by omega),Below.heap_setCell _ _ _ _ (show g≠X by omega)]) (setX_ints (HMk4.out.keep HB5.out).row)
        have hV6:=(HMv.out.keep HB5.out).keepX (w' := ((w5.setCell ⟨X,k*3,none⟩ (.bool l)).setCell ⟨X,k*3+1,none⟩ (.string b)).setCell ⟨X,k*3+2,none⟩ (.slice ao lo lc)) (fun g h1 _=>by rw[Below.heap_setCell _ _ _ _ (show g≠X by omega),Below.heap_setCell _ _ _ _ (show g≠X by omega),Below.heap_setCell _ _ _ _ (show g≠X by omega)]) (setX_ints (HMk4.out.keep HB5.out).row)
        have hwX:w.heap.size≤X:=by have:=HZ1.out;omega
        have hB6:=(((HB4.out.trans (HB5.out.mono HB4.out.size)).setCell (p:=⟨X,k*3,none⟩) hwX (.bool l)).setCell (p:=⟨X,k*3+1,none⟩) hwX (.string b)).setCell (p:=⟨X,k*3+2,none⟩) hwX (.slice ao lo lc)
        have hS6:X+1≤(((w5.setCell ⟨X,k*3,none⟩ (.bool l)).setCell ⟨X,k*3+1,none⟩ (.string b)).setCell ⟨X,k*3+2,none⟩ (.slice ao lo lc)).heap.size:=by have h1:=HX4.out.1;have h2:=HB5.out.size;simp[World.setCell];omega
        have HM6:=hide hM6
        have HD6:=hide hD6
        have HV6:=hide hV6
        have HB6:=hide hB6
        have HS6:=hide hS6
        have HwX:=hide hwX
        clear hM6 hD6 hV6 hB6 hS6 d4 d5 s0 s1 s2 f0 f1 f2 HB5 HI5 hwX
        generalize ((w5.setCell ⟨X,k*3,none⟩ (.bool l)).setCell ⟨X,k*3+1,none⟩ (.string b)).setCell ⟨X,k*3+2,none⟩ (.slice ao lo lc)=W6 at *
        have hLn:=HMs.out k (by omega)
        go_wp2_with (at_builtin;go_must (refine wpList_append_md rfl _ _ rfl (X+1) wr.heap.size _ _ rfl HD6.out _ (M k) rfl HV6.out (by omega) HS6.out ?_);intro v7 w7 hr7 hg7 ho7 hk7;go_must (have HX7:=hide (And.intro hr7 (And.intro (HB6.out.grown hg7 HB6.out.size (fun k hk=>Nat.le_trans HwX.out (Nat.le_of_lt (ho7 k hk)))) (HM6.out.keepT (by obtain⟨_,o1,_⟩:=HD6.out;exact KpIt.of_grown o1 (by decide) hg7)))));clear hr7 hg7 ho7 hk7)
        go_roundw
        case rel =>
         refine⟨k+1,_,by omega,by go_num,?_,HX7.out.2.2,HX7.out.2.1⟩
         rw[HFs.out,HBm.out.1];exact HX7.out.1
        case measure=>simp[intOf];omega
  ·obtain rfl:k=16:=by omega
   have y0:=HC.out _ HB.out
   have HPt:Hid (PSl wk qa qc (x.path.take i)):=(HQ.out.keep (KpI.of_below HB.out)).take i
   have HAt:=hide (at_any base (.slice (some ⟨g,0,none⟩) L.length cap) L qa qc (x.path.take i) wk (HR.out.keep HB.out) HS.out (by omega) HPt.out (by simp;omega))
   have hlt:(x.path.take i).length=i:=by simp;omega
   rw[hlt] at HAt
   clear hlt
   go_wp2_with fail
   refine HAt.out.mono ?_
   rintro e w4 ⟨rfl,hb4⟩
   have HB4:Hid (Below w.heap.size w w4):=HB.out.trans (hb4.mono HB.out.size)
   have HMk4:=hide (HMk.out.keep hb4)
   have HMd4:=hide (HMd.out.keep hb4)
   clear hb4 y0
   by_cases hany:L.any (atF (x.path.take i))=true
   ·have hat:atR L (x.path.take i)=((L.findIdx (atF (x.path.take i)):Nat):Int):=by unfold atR;rw[if_pos hany]
    have hval:valAt L (x.path.take i)=(L.getD (L.findIdx (atF (x.path.take i))) th0).value:=by unfold valAt;rw[if_pos hany]
    have hix:L.findIdx (atF (x.path.take i))<L.length:=by
     obtain⟨y,hy,hy2⟩:=List.any_eq_true.1 hany
     exact List.findIdx_lt_length_of_exists ⟨y,hy,hy2⟩
    rw[hat]
    have HVal:=hide hval
    clear hat hval hany HAt
    generalize L.findIdx (atF (x.path.take i))=ix at *
    obtain⟨g', cap', _,_,hv,_,_,x1,_,_⟩:=(HR.out.keep HB4.out).cellAt ix hix
    obtain⟨rfl,rfl⟩:g=g' ∧ cap=cap' := by simpa using hv
    have n0:(0:Int)≤(ix:Int):=by omega
    have n1:(ix:Int)<(L.length:Int):=by omega
    have d4:w4.cell? ⟨R,2,none⟩=some (.slice (some ⟨X,0,none⟩) 17 17):=cell_of_row _ _ 2 _ _ (0,0) HMk4.out.box
    obtain⟨a0,a1,a2,s0,s1,s2,f0,f1,f2⟩:=HMk4.out.cells (k:=16) (by decide)
    change w4.cell? ⟨X,48,none⟩=_ at s0
    change w4.cell? ⟨X,49,none⟩=_ at s1
    change w4.cell? ⟨X,50,none⟩=_ at s2
    change w4.frozen? ⟨X,48,none⟩=_ at f0
    change w4.frozen? ⟨X,49,none⟩=_ at f1
    change w4.frozen? ⟨X,50,none⟩=_ at f2
    generalize L.getD ix th0=y at *
    clear hv
    go_wp2_with fail
    go_region
    have hlt:=HMk4.out.lt
    have hwX:w.heap.size≤X:=by have:=HZ1.out;omega
    have hM6:=HMk4.out.set (k:=16) (by rw[HMk4.out.len];decide) (ItO.text 8 _ _ y.value (by rw[←HVal.out];exact HTv.out))
    rw[brTs_end] at hM6
    have hB6:=((HB4.out.setCell (p:=⟨X,48,none⟩) hwX (.bool false)).setCell (p:=⟨X,49,none⟩) hwX (.string y.value)).setCell (p:=⟨X,50,none⟩) hwX (.slice none 0 0)
    have hD6:=HMd4.out.keepX (w' := (((w4.setCell ⟨X,48,none⟩ (.bool false)).setCell ⟨X,49,none⟩ (.string y.value)).setCell ⟨X,50,none⟩ (.slice none 0 0)).drew) (fun g h1 _=>by
     show (((w4.setCell ⟨X,48,none⟩ (.bool false)).setCell ⟨X,49,none⟩ (.string y.value)).setCell ⟨X,50,none⟩ (.slice none 0 0)).heap[g]? = _
     rw[Below.heap_setCell _ _ _ _ (show g≠X by omega),Below.heap_setCell _ _ _ _ (show g≠X by omega),Below.heap_setCell _ _ _ _ (show g≠X by omega)]) (setX_ints HMk4.out.row)
    have HLn8:Hid ((css.set 16 [.bool false,.string y.value,.slice none 0 0]).length=17):=by show _=_;rw[List.length_set];exact HMk4.out.len
    have HM8:=hide (hM6.keep (Below.refl _ _).drew)
    have HB8:=hide hB6.drew
    have HD8:=hide hD6
    clear hM6 hB6 hD6 d4 s0 s1 s2 f0 f1 f2 x1
    change Hid (Mk R X (((w4.setCell ⟨X,48,none⟩ (.bool false)).setCell ⟨X,49,none⟩ (.string y.value)).setCell ⟨X,50,none⟩ (.slice none 0 0)).drew _ _) at HM8
    rw[HVal.out] at HTo HCo
    generalize (((w4.setCell ⟨X,48,none⟩ (.bool false)).setCell ⟨X,49,none⟩ (.string y.value)).setCell ⟨X,50,none⟩ (.slice none 0 0)).drew=W8 at *
    have b0:W8.cell? ⟨R,0,none⟩=some (.bool true):=cell_of_row _ _ 0 _ _ (0,0) HM8.out.box
    have b1:W8.cell? ⟨R,1,none⟩=some (.string ⟨#[]⟩):=cell_of_row _ _ 1 _ _ (0,0) HM8.out.box
    have b2:W8.cell? ⟨R,2,none⟩=some (.slice (some ⟨X,0,none⟩) 17 17):=cell_of_row _ _ 2 _ _ (0,0) HM8.out.box
    have HCn:=hide (code_new X _ 17 _ _ W8 _ HM8.out.row rfl HLn8.out (by decide) HM8.out.its HTo.out)
    rw[HCo.out] at HCn
    have HMl:=hide (HMs.out 16 (by decide))
    go_wp2_with fail
    refine HCn.out.mono ?_
    rintro e w5 ⟨rfl,hb5⟩
    have HB6:Hid (Below w.heap.size w w5):=HB8.out.trans (hb5.mono HB8.out.size)
    have HMv6:=hide (HD8.out.keep hb5)
    clear hb5 b0 b1 b2
    have y0:=HC.out _ HB6.out
    have HMd9:=hide (MdRow.one w.heap.size w5 qa qc (x.path.take i) code (decide (32≤code.size)) i (by simp;omega) HB6.out.size ((HQ.out.keep (KpI.of_below HB6.out)).take i))
    have HDc:Hid (decide (32≤code.size)=decide ((32:Int)≤(code.size:Int))):=by show _=_;rw[decide_eq_decide];omega
    rw[HDc.out] at HMd9
    go_wp2_with (at_builtin;go_must (refine wpList_append_md rfl _ _ rfl w.heap.size (X+1) _ _ rfl HMd9.out _ _ rfl (HMv6.out.keep (below_alloc _ _)) (by have:=HMl.out;simp only[List.length_cons,List.length_nil];omega) (Nat.le_trans HB6.out.size (below_alloc _ _).size) ?_);intro v6 w6 hr6 hg6 hk6 hkp6;go_must (have HX6:=hide (And.intro hr6 (Below.grown (HB6.out.trans ((below_alloc _ _).mono HB6.out.size)) hg6 (Nat.le_trans HB6.out.size (below_alloc _ _).size) hk6)));clear hr6 hg6 hk6 hkp6)
    go_ret2
    refine⟨v6,rfl,?_,HX6.out.2⟩
    rw[HDc.out]
    exact HX6.out.1
   ·have hat:atR L (x.path.take i) = -1:=by unfold atR;rw[if_neg hany]
    have hval:valAt L (x.path.take i)=eB:=by unfold valAt;rw[if_neg hany]
    rw[hat]
    have hM6:=HMk4.out
    rw[brTs_end0,←hval] at hM6
    have HLn8:Hid (css.length=17):=HMk4.out.len
    have HM8:=hide hM6
    have HB8:=HB4
    have HD8:=HMd4
    clear hM6 hat hval hany HAt
    generalize w4=W8 at *
    have b0:W8.cell? ⟨R,0,none⟩=some (.bool true):=cell_of_row _ _ 0 _ _ (0,0) HM8.out.box
    have b1:W8.cell? ⟨R,1,none⟩=some (.string ⟨#[]⟩):=cell_of_row _ _ 1 _ _ (0,0) HM8.out.box
    have b2:W8.cell? ⟨R,2,none⟩=some (.slice (some ⟨X,0,none⟩) 17 17):=cell_of_row _ _ 2 _ _ (0,0) HM8.out.box
    have HCn:=hide (code_new X _ 17 _ _ W8 _ HM8.out.row rfl HLn8.out (by decide) HM8.out.its HTo.out)
    rw[HCo.out] at HCn
    have HMl:=hide (HMs.out 16 (by decide))
    go_wp2_with fail
    refine HCn.out.mono ?_
    rintro e w5 ⟨rfl,hb5⟩
    have HB6:Hid (Below w.heap.size w w5):=HB8.out.trans (hb5.mono HB8.out.size)
    have HMv6:=hide (HD8.out.keep hb5)
    clear hb5 b0 b1 b2
    have y0:=HC.out _ HB6.out
    have HMd9:=hide (MdRow.one w.heap.size w5 qa qc (x.path.take i) code (decide (32≤code.size)) i (by simp;omega) HB6.out.size ((HQ.out.keep (KpI.of_below HB6.out)).take i))
    have HDc:Hid (decide (32≤code.size)=decide ((32:Int)≤(code.size:Int))):=by show _=_;rw[decide_eq_decide];omega
    rw[HDc.out] at HMd9
    go_wp2_with (at_builtin;go_must (refine wpList_append_md rfl _ _ rfl w.heap.size (X+1) _ _ rfl HMd9.out _ _ rfl (HMv6.out.keep (below_alloc _ _)) (by have:=HMl.out;simp only[List.length_cons,List.length_nil];omega) (Nat.le_trans HB6.out.size (below_alloc _ _).size) ?_);intro v6 w6 hr6 hg6 hk6 hkp6;go_must (have HX6:=hide (And.intro hr6 (Below.grown (HB6.out.trans ((below_alloc _ _).mono HB6.out.size)) hg6 (Nat.le_trans HB6.out.size (below_alloc _ _).size) hk6)));clear hr6 hg6 hk6 hkp6)
    go_ret2
    refine⟨v6,rfl,?_,HX6.out.2⟩
    rw[HDc.out]
    exact HX6.out.1
end Go.Proofs.YthdjmldddjljfaaGreatDoor.V
