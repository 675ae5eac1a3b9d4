/-
  OUR OWN.
-/
import Derived.Test.YthdjmldddjljfaaGreatDoorH40
import Derived.Test.YthdjmldddjljfaaGreatDoorH04
set_option maxHeartbeats 8000000
set_option maxRecDepth 20000
namespace Go.Proofs.YthdjmldddjljfaaGreatDoor
open Go.RowKit
attribute [local go_sem ↓] Go.wp_at_zero Go.wp_at_succ
def sA:ByteArray:=⟨#[97]⟩
def sB:ByteArray:=⟨#[98]⟩
def n1:Nd:=setAll .nil [(sA,sB)]
theorem n1_ok:TOk n1:=TOk.nil.setAll [(sA,sB)] (by intro p hp;simp at hp;rw[hp];decide)
theorem n1_rel:RelM n1 [(sA,sB)]:=RelM.nil.step TOk.nil (p:=(sA,sB)) (by decide)
theorem n1_flat:n1.flat []=[(pathN sA,sB)]:=(n1_rel.flat n1_ok).symm
theorem n1_look:n1.look (pathN sA)=sB:=((n1_rel.lk (pathN sA,sB)).2 ⟨(sA,sB),by simp,rfl⟩).1
def scriptC (P:Nat):Array Value:=#[.int .i64 1,.int .i64 0,.string ⟨#[]⟩,.int .i64 0,.slice (some ⟨P,0,none⟩) 1 1,.slice none 0 0,.int .i64 3,.int .i64 0,.string ⟨#[97]⟩,.int .i64 0,.slice none 0 0,.slice none 0 0]
structure KS (w0 w:World)(B P Q T0 R0 T1 R1:Nat)(st1 S1:Value)(gl:List Nat):Prop where
 bk:Bk w B w0.heap.size (ptr T0) (ptr R0) (ptr T1) (ptr R1) (.slice none 0 0) gl
 pp:w.heap[P]? = some (.cells #[.string sA,.string sB] 33 (0,0))
 qq:w.heap[Q]? = some (.cells (scriptC P) 40 (0,0))
 tb:TbZ w
 bel:Below w0.heap.size w0 w
 t1:TreeAt HkC (fun _=>False) w T1 st1 .nil
 r1:RTree w R1 S1 (.slice none 0 0) []
 ge:w0.heap.size≤T0∧w0.heap.size≤R0∧w0.heap.size≤B
 ne:T0≠T1∧R0≠R1
 gll:gl.length≤10
theorem KS.keep {w0 w w' : World}{B P Q T0 R0 T1 R1:Nat}{st1 S1:Value}{gl:List Nat}(h:KS w0 w B P Q T0 R0 T1 R1 st1 S1 gl)(hb:Below w.heap.size w w'):KS w0 w' B P Q T0 R0 T1 R1 st1 S1 gl where
 bk:=h.bk.keep hb
 pp:=(hb.block P (aGe.1 h.pp).1).trans h.pp
 qq:=(hb.block Q (aGe.1 h.qq).1).trans h.qq
 tb:=h.tb.keep hb
 bel:=h.bel.trans (hb.mono h.bel.size)
 t1:=h.t1.keep hb
 r1:=h.r1.keep hb
 ge:=h.ge
 ne:=h.ne
 gll:=h.gll
theorem TbZ.low {w w' : World}(h:TbZ w)(hl:w.heap.size≤w'.heap.size)(hb:∀k,k<3→w'.heap[k]? = w.heap[k]?):TbZ w' := by
 refine⟨⟨fun j hj=>?_,fun j hj=>?_⟩,Nat.le_trans h.three hl⟩
 ·exact (World.cell?_of_block (w:=w) (a:=⟨0,j,none⟩) (hb _ (by show 0 < 3;decide))).trans (h.tabs.rcs j hj)
 ·exact (World.cell?_of_block (w:=w) (a:=⟨1,j,none⟩) (hb _ (by show 1 < 3;decide))).trans (h.tabs.tus j hj)
theorem KS.put {w0 w w' : World}{B P Q T0 R0 T1 R1:Nat}{st0 S0 lv0 st1 S1:Value}{n:Nd}{F:List (List Nat×ByteArray)}{ok:Nat→Prop}{gl:List Nat}(h:KS w0 w B P Q T0 R0 T1 R1 st1 S1 gl)(h3:3≤w0.heap.size)(hA:TreeAt HkC ok w T0 st0 n)(hR:RTree w R0 S0 lv0 F)(hx:Ex (fun j=>j=T0∨j=R0) w w'):KS w0 w' B P Q T0 R0 T1 R1 st1 S1 gl:=by
 have hty:∀(j:Nat) (cs:Array Value) (t:TypeId) (fr:Nat×Nat),(j=T0∨j=R0)→w.heap[j]? = some (.cells cs t fr)→t=71∨t=77:=fun j cs t fr hj hc=>by
  rcases hj with rfl|rfl
  ·obtain⟨u,h1,_⟩:=hA.held
   rw[h1] at hc
   injection hc with hc
   injection hc with _ hc _
   exact .inl hc.symm
  ·rw[hR.box] at hc
   injection hc with hc
   injection hc with _ hc _
   exact .inr hc.symm
 have hne:∀(j:Nat) (cs:Array Value) (t:TypeId) (fr:Nat×Nat),w.heap[j]? = some (.cells cs t fr)→t≠71→t≠77→w'.heap[j]? = some (.cells cs t fr):=fun j cs t fr hc h1 h2=>by
  rw[hx.block j (aGe.1 hc).1 (fun hj=>by rcases hty j cs t fr hj hc with e|e;exact h1 e;exact h2 e)]
  exact hc
 obtain⟨g1,g2,g3⟩:=h.ge
 have hT1:¬(T1=T0∨T1=R0):=fun hj=>by
  rcases hj with e|e
  ·exact h.ne.1 e.symm
  ·obtain⟨u,k1,_⟩:=h.t1.held
   rw[e,hR.box] at k1
   injection k1 with k1
   injection k1 with _ k1 _
   exact absurd k1 (by decide)
 have hR1:¬(R1=T0∨R1=R0):=fun hj=>by
  rcases hj with e|e
  ·obtain⟨u,k1,_⟩:=hA.held
   rw[←e,h.r1.box] at k1
   injection k1 with k1
   injection k1 with _ k1 _
   exact absurd k1 (by decide)
  ·exact h.ne.2 e.symm
 exact {
  bk:=h.bk.ex hx (fun j cs t fr hj hc=>by
   rcases hty j cs t fr hj hc with e|e<;>rw[e]<;>exact⟨by decide,by decide,by decide⟩)
  pp:=hne P _ _ _ h.pp (by decide) (by decide)
  qq:=hne Q _ _ _ h.qq (by decide) (by decide)
  tb:=h.tb.low hx.size (fun k hk=>hx.block k (by have:=h.bel.size;omega) (fun hj=>by rcases hj with e|e<;>omega))
  bel:=⟨hx.os.trans h.bel.os,hx.tape.trans h.bel.tape,hx.output.trans h.bel.output,Nat.le_trans h.bel.size hx.size,fun k hk=>(hx.block k (Nat.lt_of_lt_of_le hk h.bel.size) (fun hj=>by rcases hj with e|e<;>omega)).trans (h.bel.block k hk)⟩
  t1:=h.t1.ex hx hT1 (fun _ h=>h.elim)
  r1:=⟨(hx.block R1 (aGe.1 h.r1.box).1 hR1).trans h.r1.box,.inl ⟨rfl,rfl⟩⟩
  ge:=h.ge
  ne:=h.ne
  gll:=h.gll }
theorem TreeAt.nil_same {Hk:Nd→ByteArray→Prop}{w w' : World}{T:Nat}{st:Value}(h:TreeAt Hk (fun _=>False) w T st .nil)(hs:∀(cs:Array Value),w.heap[T]? = some (.cells cs 71 (0,0))→w'.heap[T]? = some (.cells cs 71 (0,0))):TreeAt Hk (fun _=>False) w' T st .nil:=by
 obtain⟨u,h1,h2⟩:=h.held
 exact⟨⟨u,hs _ h1,h2⟩,fun k hk=>hk.elim⟩
def put4 (W:World)(B:Nat)(a b c d:Value):World:=((((W.setCell ⟨B,6,none⟩ a).setCell ⟨B,7,none⟩ b).setCell ⟨B,8,none⟩ c).setCell ⟨B,9,none⟩ d).drew.drew
theorem ks_start {w W2:World}{B P Q T0 R0 T1 R1:Nat}{st0 S0 st1 S1:Value}{gl:List Nat}(hb:Below w.heap.size w W2)(hBk:Bk W2 B w.heap.size (.pointer none) (.pointer none) (.pointer none) (.pointer none) (.slice none 0 0) gl)(hTb:TbZ w)(hP:w.heap[P]? = some (.cells #[.string sA,.string sB] 33 (0,0)))(hQ:w.heap[Q]? = some (.cells (scriptC P) 40 (0,0)))
  (t0:TreeAt HkC (fun _=>False) W2 T0 st0 .nil) (r0:W2.heap[R0]? = some (.cells #[S0,.slice none 0 0] 77 (0,0))) (t1:TreeAt HkC (fun _=>False) W2 T1 st1 .nil) (r1:W2.heap[R1]? = some (.cells #[S1,.slice none 0 0] 77 (0,0)))
  (ge:w.heap.size≤T0∧w.heap.size≤R0∧w.heap.size≤B) (ne:T0≠T1∧R0≠R1) (gll:gl.length≤10) :
  KS w (put4 W2 B (ptr T0) (ptr R0) (ptr T1) (ptr R1)) B P Q T0 R0 T1 R1 st1 S1 gl∧TreeAt HkC (fun _=>False) (put4 W2 B (ptr T0) (ptr R0) (ptr T1) (ptr R1)) T0 st0 .nil∧RTree (put4 W2 B (ptr T0) (ptr R0) (ptr T1) (ptr R1)) R0 S0 (.slice none 0 0) []:=by
 have hex:Ex (fun j=>j=B) W2 (put4 W2 B (ptr T0) (ptr R0) (ptr T1) (ptr R1)) :=
  (((((Ex.of_below (X:=fun j=>j=B) (Below.refl W2.heap.size W2)).set (p:=⟨B,6,none⟩) (.inl rfl) (ptr T0)).set (p:=⟨B,7,none⟩) (.inl rfl) (ptr R0)).set (p:=⟨B,8,none⟩) (.inl rfl) (ptr T1)).set (p:=⟨B,9,none⟩) (.inl rfl) (ptr R1)).trans (Ex.of_below ((Below.refl _ _).drew.drew))
 obtain⟨v,hv,hown⟩:=hBk.box
 have hty:∀(k:Nat) (cs:Array Value) (t:TypeId) (fr:Nat×Nat),W2.heap[k]? = some (.cells cs t fr)→t≠55→(put4 W2 B (ptr T0) (ptr R0) (ptr T1) (ptr R1)).heap[k]? = some (.cells cs t fr):=fun k cs t fr hk ht=>by
  rw[hex.block k (aGe.1 hk).1 (fun e=>by
   rw[e,hv] at hk
   injection hk with hk
   injection hk with _ hk _
   exact ht hk.symm)]
  exact hk
 have hbox:(put4 W2 B (ptr T0) (ptr R0) (ptr T1) (ptr R1)).heap[B]? = some (.cells (wCells v (ptr T0) (ptr R0) (ptr T1) (ptr R1) (.slice none 0 0)) 55 (0,0)) :=
  heap_setCell_same _ B 9 _ 55 _ (heap_setCell_same _ B 8 _ 55 _ (heap_setCell_same _ B 7 _ 55 _ (heap_setCell_same W2 B 6 _ 55 (ptr T0) hv)))
 have hbel:Below w.heap.size w (put4 W2 B (ptr T0) (ptr R0) (ptr T1) (ptr R1)):=⟨hex.os.trans hb.os,hex.tape.trans hb.tape,hex.output.trans hb.output,Nat.le_trans hb.size hex.size,fun k hk=>(hex.block k (Nat.lt_of_lt_of_le hk hb.size) (fun e=>by have:=ge.2.2;omega)).trans (hb.block k hk)⟩
 refine⟨{
  bk:=⟨⟨v,hbox,own_far hown (fun g hg hl=>by
   obtain⟨_,cur,hc⟩:=ownsRow_type hown g hg
   rw[hc]
   exact hty g _ _ _ hc (by decide))⟩,fun i hi=>hty _ _ _ _ (hBk.rows i hi) (by decide)⟩
  pp:=(hbel.block P (aGe.1 hP).1).trans hP
  qq:=(hbel.block Q (aGe.1 hQ).1).trans hQ
  tb:=hTb.keep hbel
  bel:=hbel
  t1:=t1.nil_same (fun cs hc=>hty _ _ _ _ hc (by decide))
  r1:=⟨hty _ _ _ _ r1 (by decide),.inl ⟨rfl,rfl⟩⟩
  ge:=ge
  ne:=ne
  gll:=gll },t0.nil_same (fun cs hc=>hty _ _ _ _ hc (by decide)),⟨hty _ _ _ _ r0 (by decide),.inl ⟨rfl,rfl⟩⟩⟩
theorem played_known (P Q:Nat)(w:World)(hTb:TbZ w)(hP:w.heap[P]? = some (.cells #[.string sA,.string sB] 33 (0,0)))(hQ:w.heap[Q]? = some (.cells (scriptC P) 40 (0,0))) :
  Calls Tryz.prog 8 #[.slice none 0 0,.slice none 0 0,.slice (some ⟨Q,0,none⟩) 2 2,.int .i64 3] w fun e w' => e=.returned (.bool true)∧Below w.heap.size w w' := by
 have HTb:=hide hTb
 have HP:=hide hP
 have HQ:=hide hQ
 have HM:=hide (made_nil HkC)
 have hB0:(w.alloc (.cells (wCells (.slice none 0 0) (.pointer none) (.pointer none) (.pointer none) (.pointer none) (.slice none 0 0)) 55)).heap[w.heap.size]? = _:=heap_alloc_new w _
 have HK0:Hid (Bk (w.alloc (.cells (wCells (.slice none 0 0) (.pointer none) (.pointer none) (.pointer none) (.pointer none) (.slice none 0 0)) 55)) w.heap.size w.heap.size (.pointer none) (.pointer none) (.pointer none) (.pointer none) (.slice none 0 0) []):=⟨⟨_,hB0,World.ownsRow_nil _ _ _ _⟩,fun i hi=>by simp at hi⟩
 have HBel0:=hide (below_alloc w (.cells (wCells (.slice none 0 0) (.pointer none) (.pointer none) (.pointer none) (.pointer none) (.slice none 0 0)) 55))
 clear hTb hP hQ hB0
 unfold wCells at HK0 HBel0
 go_enter Tryz.func8,Tryz.ntmps8
 go_wp2_with fail
 generalize (w.alloc (.cells #[.slice none 0 0,.slice none 0 0,.slice none 0 0,.slice none 0 0,.slice none 0 0,.slice none 0 0,.pointer none,.pointer none,.pointer none,.pointer none,.slice none 0 0,.slice none 0 0,.string ⟨#[]⟩,.slice none 0 0,.slice none 0 0] 55))=W0 at *
 refine (HM.out _ _ _ _ _ _ _ _ _ HK0.out (by have:=HBel0.out.size;omega) (by simp)).mono ?_
 rintro e w1 ⟨T0,M0,R0,S0,g0,rfl,h1⟩
 have HA1:=hide h1
 clear h1
 unfold ptr
 have HB1:Hid (Below w.heap.size w w1):=HBel0.out.trans (HA1.out.below (Nat.le_refl _) HBel0.out.size)
 have HBb:Hid ((w1.alloc (.cells #[.pointer (some ⟨T0,0,none⟩),.pointer (some ⟨R0,0,none⟩)] 51)).heap[w1.heap.size]? = some (.cells #[.pointer (some ⟨T0,0,none⟩),.pointer (some ⟨R0,0,none⟩)] 51 (0,0))∧Below w1.heap.size w1 (w1.alloc (.cells #[.pointer (some ⟨T0,0,none⟩),.pointer (some ⟨R0,0,none⟩)] 51))):=⟨heap_alloc_new _ _,below_alloc _ _⟩
 go_wp2_with fail
 generalize (w1.alloc (.cells #[.pointer (some ⟨T0,0,none⟩),.pointer (some ⟨R0,0,none⟩)] 51))=W1 at *
 have HBW1:Hid (Below w.heap.size w W1):=HB1.out.trans (HBb.out.2.mono HB1.out.size)
 have HKb:=hide (HA1.out.bk.keep HBb.out.2)
 refine (HM.out _ _ _ _ _ _ _ _ _ HKb.out HBW1.out.size (by simp)).mono ?_
 rintro e w2 ⟨T1,M1,R1,S1,g1,rfl,h2⟩
 have HA2:=hide h2
 clear h2
 unfold ptr
 have HB2:Hid (Below w.heap.size w w2):=HBW1.out.trans (HA2.out.below (Nat.le_refl _) HBW1.out.size)
 have HBc:Hid ((w2.alloc (.cells #[.pointer (some ⟨T1,0,none⟩),.pointer (some ⟨R1,0,none⟩)] 51)).heap[w2.heap.size]? = some (.cells #[.pointer (some ⟨T1,0,none⟩),.pointer (some ⟨R1,0,none⟩)] 51 (0,0))∧Below w2.heap.size w2 (w2.alloc (.cells #[.pointer (some ⟨T1,0,none⟩),.pointer (some ⟨R1,0,none⟩)] 51))):=⟨heap_alloc_new _ _,below_alloc _ _⟩
 go_wp2_with fail
 have bk2:=HA2.out.bk.keep HBc.out.2
 obtain⟨v,hBv,hown⟩:=bk2.box
 have hw1B:w1.heap.size≠w.heap.size:=fun e=>by
  have h1:=HBb.out.1
  obtain⟨v', h2,_⟩:=HKb.out.box
  rw[e,h2] at h1
  injection h1 with h1
  injection h1 with _ h1 _
  exact absurd h1 (by decide)
 have x10:(w2.alloc (.cells #[.pointer (some ⟨T1,0,none⟩),.pointer (some ⟨R1,0,none⟩)] 51)).heap[w1.heap.size]? = some (.cells #[.pointer (some ⟨T0,0,none⟩),.pointer (some ⟨R0,0,none⟩)] 51 (0,0)):=by
  have h2:=HA2.out.same HBb.out.1 hw1B (by decide)
  exact (HBc.out.2.block _ (aGe.1 h2).1).trans h2
 have HX10:=hide x10
 have hw2B:w2.heap.size≠w.heap.size:=fun e=>by
  have h1:=HBc.out.1
  rw[e,hBv] at h1
  injection h1 with h1
  injection h1 with _ h1 _
  exact absurd h1 (by decide)
 have HBk2:=hide bk2
 have HBv:=hide hBv
 have HOv:=hide hown
 have x12:=HBc.out.1
 generalize (w2.alloc (.cells #[.pointer (some ⟨T1,0,none⟩),.pointer (some ⟨R1,0,none⟩)] 51))=W2 at *
 have HBW2:Hid (Below w.heap.size w W2):=HB2.out.trans (HBc.out.2.mono HB2.out.size)
 have c100:W2.cell? ⟨w1.heap.size,0,none⟩=some (.pointer (some ⟨T0,0,none⟩)):=cell_of_row _ _ 0 _ _ (0,0) x10
 have c101:W2.cell? ⟨w1.heap.size,1,none⟩=some (.pointer (some ⟨R0,0,none⟩)):=cell_of_row _ _ 1 _ _ (0,0) x10
 have c120:W2.cell? ⟨w2.heap.size,0,none⟩=some (.pointer (some ⟨T1,0,none⟩)):=cell_of_row _ _ 0 _ _ (0,0) x12
 have c121:W2.cell? ⟨w2.heap.size,1,none⟩=some (.pointer (some ⟨R1,0,none⟩)):=cell_of_row _ _ 1 _ _ (0,0) x12
 have cB6:W2.cell? ⟨w.heap.size,6,none⟩=some (.pointer none):=cell_of_row _ _ 6 _ _ (0,0) hBv
 have cB7:W2.cell? ⟨w.heap.size,7,none⟩=some (.pointer none):=cell_of_row _ _ 7 _ _ (0,0) hBv
 have cB8:W2.cell? ⟨w.heap.size,8,none⟩=some (.pointer none):=cell_of_row _ _ 8 _ _ (0,0) hBv
 have cB9:W2.cell? ⟨w.heap.size,9,none⟩=some (.pointer none):=cell_of_row _ _ 9 _ _ (0,0) hBv
 have fB:∀j,W2.frozen? ⟨w.heap.size,j,none⟩=false:=fun j=>frozen_of_row _ _ j _ _ hBv
 have n1:¬w2.heap.size=w.heap.size:=hw2B
 have n2:¬w.heap.size=w2.heap.size:=fun e=>hw2B e.symm
 have n3:¬w1.heap.size=w.heap.size:=hw1B
 have n4:¬w.heap.size=w1.heap.size:=fun e=>hw1B e.symm
 clear bk2 hBv hown hw1B hw2B x10 x12
 obtain⟨b10,hb10⟩:∃b,w1.heap.size=b:=⟨_,rfl⟩
 obtain⟨b12,hb12⟩:∃b,w2.heap.size=b:=⟨_,rfl⟩
 rw[hb10] at c100 c101 n3 n4 HX10 ⊢
 rw[hb12] at c120 c121 n1 n2 ⊢
 have Hb:=hide (And.intro hb10 hb12)
 clear hb10 hb12
 go_region
 go_wp2_with fail
 go_region
 go_wp2_with fail
 have hT0:TreeAt HkC (fun _=>False) W2 T0 (.map (some M0)) .nil:=HA1.out.tree.nil_same (fun cs hc=>by
  have h1:=(HBb.out.2.block _ (aGe.1 hc).1).trans hc
  have h2:=HA2.out.same h1 (fun e=>by
   obtain⟨v', h3,_⟩:=HKb.out.box
   rw[e,h3] at h1
   injection h1 with h1
   injection h1 with _ h1 _
   exact absurd h1 (by decide)) (by decide)
  exact (HBc.out.2.block _ (aGe.1 h2).1).trans h2)
 have hR0:W2.heap[R0]? = some (.cells #[ptr S0,.slice none 0 0] 77 (0,0)):=by
  have hc:=HA1.out.ref
  have h1:=(HBb.out.2.block _ (aGe.1 hc).1).trans hc
  have h2:=HA2.out.same h1 (fun e=>by
   obtain⟨v', h3,_⟩:=HKb.out.box
   rw[e,h3] at h1
   injection h1 with h1
   injection h1 with _ h1 _
   exact absurd h1 (by decide)) (by decide)
  exact (HBc.out.2.block _ (aGe.1 h2).1).trans h2
 have hT1:TreeAt HkC (fun _=>False) W2 T1 (.map (some M1)) .nil:=HA2.out.tree.keep HBc.out.2
 have hR1:W2.heap[R1]? = some (.cells #[ptr S1,.slice none 0 0] 77 (0,0)):=(HBc.out.2.block _ (aGe.1 HA2.out.ref).1).trans HA2.out.ref
 have hs0:=HBel0.out.size
 have hlt0:T0 < w1.heap.size:=HA1.out.tree.lt
 have hlr0:R0 < w1.heap.size:=(aGe.1 HA1.out.ref).1
 have hsb:=HBb.out.2.size
 have hn0:=HA1.out.newT
 have hn1:=HA1.out.newR
 have hn2:=HA2.out.newT
 have hn3:=HA2.out.newR
 have hst:=ks_start (T0:=T0) (R0:=R0) (T1:=T1) (R1:=R1) HBW2.out HBk2.out HTb.out HP.out HQ.out hT0 hR0 hT1 hR1 ⟨by omega,by omega,Nat.le_refl _⟩ ⟨by omega,by omega⟩ (by simp)
 have HSt:=hide hst
 clear hst hT0 hR0 hT1 hR1 hs0 hlt0 hlr0 hsb hn0 hn1 hn2 hn3
 clear c100 c101 c120 c121 cB6 cB7 cB8 cB9 fB n1 n2 n3 n4 HX10 HOv HBv HBk2 HA1 HA2 HKb HB1 HB2 HBW1 HBW2 HBb HBc HK0 HBel0 HM
 unfold put4 ptr at HSt
 generalize ((((W2.setCell ⟨w.heap.size,6,none⟩ (.pointer (some ⟨T0,0,none⟩))).setCell ⟨w.heap.size,7,none⟩ (.pointer (some ⟨R0,0,none⟩))).setCell ⟨w.heap.size,8,none⟩ (.pointer (some ⟨T1,0,none⟩))).setCell ⟨w.heap.size,9,none⟩ (.pointer (some ⟨R1,0,none⟩))).drew.drew=W3 at *
 have HLk:=hide (fun W gl (h:KS w W w.heap.size P Q T0 R0 T1 R1 (.map (some M1)) (.pointer (some ⟨S1,0,none⟩)) gl)=>h.bk.looks (by have:=h.gll;omega))
 go_loopw [14] (fun iv wr=>∃(z:Int) (gl:List Nat),iv=.int .i64 z∧KS w wr w.heap.size P Q T0 R0 T1 R1 (.map (some M1)) (.pointer (some ⟨S1,0,none⟩)) gl∧((z=0∧TreeAt HkC (fun _=>False) wr T0 (.map (some M0)) .nil∧RTree wr R0 (.pointer (some ⟨S0,0,none⟩)) (.slice none 0 0) [])∨((z=1∨z=2)∧∃rv ok,(∀j,ok j→w.heap.size≤j)∧TreeAt HkC ok wr T0 (.map (some M0)) n1∧RTree wr R0 (.pointer (some ⟨S0,0,none⟩)) rv [(pathN sA,sB)]))) (fun iv _=>2 - (intOf iv).toNat)
 case atStart=>exact⟨0,_,rfl,HSt.out.1,.inl ⟨rfl,HSt.out.2.1,HSt.out.2.2⟩⟩
 case round =>
  obtain⟨z,gl,rfl,hks,hst⟩:=hrel
  have HKs:=hide hks
  obtain⟨vv,hBx,hOw⟩:=hks.bk.box
  have HBx:=hide hBx
  have hqq:=hks.qq
  have d0:wr.cell? ⟨Q,0,none⟩=some (.int .i64 1):=cell_of_row _ _ 0 _ _ (0,0) hqq
  have d1:wr.cell? ⟨Q,1,none⟩=some (.int .i64 0):=cell_of_row _ _ 1 _ _ (0,0) hqq
  have d2:wr.cell? ⟨Q,2,none⟩=some (.string ⟨#[]⟩):=cell_of_row _ _ 2 _ _ (0,0) hqq
  have d3:wr.cell? ⟨Q,3,none⟩=some (.int .i64 0):=cell_of_row _ _ 3 _ _ (0,0) hqq
  have d4:wr.cell? ⟨Q,4,none⟩=some (.slice (some ⟨P,0,none⟩) 1 1):=cell_of_row _ _ 4 _ _ (0,0) hqq
  have d5:wr.cell? ⟨Q,5,none⟩=some (.slice none 0 0):=cell_of_row _ _ 5 _ _ (0,0) hqq
  have d6:wr.cell? ⟨Q,6,none⟩=some (.int .i64 3):=cell_of_row _ _ 6 _ _ (0,0) hqq
  have d7:wr.cell? ⟨Q,7,none⟩=some (.int .i64 0):=cell_of_row _ _ 7 _ _ (0,0) hqq
  have d8:wr.cell? ⟨Q,8,none⟩=some (.string ⟨#[97]⟩):=cell_of_row _ _ 8 _ _ (0,0) hqq
  have d9:wr.cell? ⟨Q,9,none⟩=some (.int .i64 0):=cell_of_row _ _ 9 _ _ (0,0) hqq
  have d10:wr.cell? ⟨Q,10,none⟩=some (.slice none 0 0):=cell_of_row _ _ 10 _ _ (0,0) hqq
  have d11:wr.cell? ⟨Q,11,none⟩=some (.slice none 0 0):=cell_of_row _ _ 11 _ _ (0,0) hqq
  clear hks hBx hqq
  rcases hst with⟨rfl,ht0,hr0⟩|⟨hz,rv,ok,hok,ht0,hr0⟩
  ·have HStep:=hide (step_put w.heap.size T0 R0 P (.map (some M0)) (.pointer (some ⟨S0,0,none⟩)) vv (ptr T1) (ptr R1) (.slice none 0 0) sA sB wr HBx.out ht0 hr0 HKs.out.pp (by decide) (by decide) (by decide))
   have HPutK:=hide (fun w4 hx=>HKs.out.put HTb.out.three ht0 hr0 (w' := w4) hx)
   clear ht0 hr0 hOw
   go_wp2_with fail
   refine HStep.out.mono ?_
   rintro e w4 ⟨rfl,hx4,ht4,rv,hr4⟩
   have HK4:=hide (HPutK.out w4 hx4)
   have HT4:=hide (And.intro ht4 hr4)
   have HLo4:Hid (w.heap.size≤wr.heap.size):=HKs.out.bel.size
   clear hx4 ht4 hr4
   go_wp2_with fail
   refine (HLk.out w4 gl HK4.out).mono ?_
   rintro e w5 ⟨rfl,hb5⟩
   have HB5:=hide hb5
   clear hb5
   go_wp2
   go_roundw
   case rel=>exact⟨1,gl,rfl,HK4.out.keep HB5.out,.inr ⟨.inl rfl,rv,_,fun j hj=>by have:=HLo4.out;omega,HT4.out.1.keep HB5.out,HT4.out.2.keep HB5.out⟩⟩
   case measure=>simp[intOf]
  ·rcases hz with rfl|rfl
   ·have HStep:=hide (step_get ok w.heap.size T0 R0 (.map (some M0)) (.pointer (some ⟨S0,0,none⟩)) rv vv (ptr T1) (ptr R1) (.slice none 0 0) n1 sA sB wr HBx.out ht0 n1_ok n1_look (by decide) hr0 (by decide))
    have HT:=hide (And.intro ht0 hr0)
    have HOk:=hide hok
    clear ht0 hr0 hok hOw
    unfold askO sA at HStep
    go_wp2_with fail
    refine HStep.out.mono ?_
    rintro e w4 ⟨rfl,hb4⟩
    have HB4:=hide hb4
    clear hb4
    go_wp2_with fail
    refine (HLk.out w4 gl (HKs.out.keep HB4.out)).mono ?_
    rintro e w5 ⟨rfl,hb5⟩
    have HB5:Hid (Below wr.heap.size wr w5):=HB4.out.trans (hb5.mono HB4.out.size)
    clear hb5
    go_wp2
    go_roundw
    case rel=>exact⟨2,gl,rfl,HKs.out.keep HB5.out,.inr ⟨.inr rfl,rv,ok,HOk.out,HT.out.1.keep HB5.out,HT.out.2.keep HB5.out⟩⟩
    case measure=>simp[intOf]
   ·have HT:=hide (And.intro ht0 hr0)
    have HOk:=hide hok
    have HOw:=hide hOw
    clear ht0 hr0 hok hOw
    clear d0 d1 d2 d3 d4 d5 d6 d7 d8 d9 d10 d11 HLk
    rename World=>A
    have h3:=HTb.out.three
    have hF:=n1_flat
    have hroot:=asks_root ok w.heap.size T0 R0 w.heap.size 0 (.map (some M0)) (.pointer (some ⟨S0,0,none⟩)) rv vv (ptr T0) (ptr R0) (ptr T1) (ptr R1) (.slice none 0 0) [] n1 A HT.out.1 n1_ok HKs.out.tb (by rw[hF];exact HT.out.2) (by rw[hF];intro z hz;simp at hz;rw[hz];decide) (by rw[hF];simp) HBx.out (World.ownsRow_nil _ _ _ _) h3 (Nat.le_refl _) HOk.out (by omega)
    have HRoot0:=hide hroot
    clear hroot hF
    have hlow:∀W,Below w.heap.size A W→TbZ W:=fun W hW=>HKs.out.tb.low hW.size (fun k hk=>hW.block k (by omega))
    have HLow:=hide hlow
    clear hlow h3
    unfold ptr askO at HRoot0
    have HBx2:=HBx
    unfold ptr at HBx2
    go_wp2_with fail
    go_loopw [17] (fun iv wr=>∃z:Int,iv=.int .i64 z∧Below w.heap.size w wr∧((z=0∧wr=A)∨(z=1∧TbZ wr∧TreeAt HkC (fun _=>False) wr T1 (.map (some M1)) .nil∧RTree wr R1 (.pointer (some ⟨S1,0,none⟩)) (.slice none 0 0) []∧∃rts' ss,wr.heap[w.heap.size]? = some (.cells (wCells vv (ptr T0) (ptr R0) (ptr T1) (ptr R1) rts') 55 (0,0))∧wr.ownsRow w.heap.size 9 1 rts' 1 ss)∨z=2)) (fun iv _=>2 - (intOf iv).toNat)
    case atStart=>exact⟨0,rfl,HKs.out.bel,.inl ⟨rfl,rfl⟩⟩
    case round =>
     obtain⟨z,rfl,hbel,hst⟩:=hrel
     have HBel:=hide hbel
     clear hbel
     rcases hst with⟨rfl,rfl⟩|⟨rfl,htb,ht1,hr1,rts', ss,hbx,how⟩|rfl
     ·have y6:wr.cell? ⟨w.heap.size,6,none⟩=some (.pointer (some ⟨T0,0,none⟩)):=cell_of_row _ _ 6 _ _ (0,0) HBx2.out
      have y7:wr.cell? ⟨w.heap.size,7,none⟩=some (.pointer (some ⟨R0,0,none⟩)):=cell_of_row _ _ 7 _ _ (0,0) HBx2.out
      go_wp2_with fail
      refine HRoot0.out.mono ?_
      rintro e w5 ⟨rfl,hb5,hk5,rts', hbx,how⟩
      have HX5:=hide (And.intro hb5 (And.intro hk5 (And.intro hbx how)))
      clear hb5 hk5 hbx how
      go_wp2
      go_roundw
      case rel =>
       obtain⟨hb5,hk5,hbx,how⟩:=HX5.out
       refine⟨1,rfl,HBel.out.trans hb5,.inr (.inl ⟨rfl,HLow.out w5 hb5,?_,?_,rts', _,hbx,how⟩)⟩
       ·exact HKs.out.t1.nil_same (fun cs hc=>hk5 _ _ _ _ hc (by decide) (by decide) (by decide) (by decide))
       ·exact⟨hk5 _ _ _ _ HKs.out.r1.box (by decide) (by decide) (by decide) (by decide),.inl ⟨rfl,rfl⟩⟩
      case measure=>simp[intOf]
     ·have hroot:=asks_root (fun _=>False) w.heap.size T1 R1 w.heap.size 1 (.map (some M1)) (.pointer (some ⟨S1,0,none⟩)) (.slice none 0 0) vv (ptr T0) (ptr R0) (ptr T1) (ptr R1) rts' ss .nil wr ht1 TOk.nil htb hr1 (by intro z hz;cases hz) (by simp[Nd.flat]) hbx how HTb.out.three (Nat.le_refl _) (fun k hk=>hk.elim) (by omega)
      have HRoot1:=hide hroot
      have y6:wr.cell? ⟨w.heap.size,8,none⟩=some (.pointer (some ⟨T1,0,none⟩)):=cell_of_row _ _ 8 _ _ (0,0) hbx
      have y7:wr.cell? ⟨w.heap.size,9,none⟩=some (.pointer (some ⟨R1,0,none⟩)):=cell_of_row _ _ 9 _ _ (0,0) hbx
      clear hroot htb ht1 hr1 hbx how
      unfold ptr askO at HRoot1
      go_wp2_with fail
      refine HRoot1.out.mono ?_
      rintro e w5 ⟨rfl,hb5,_⟩
      have HX5:=hide hb5
      clear hb5
      go_wp2
      go_roundw
      case rel=>exact⟨2,rfl,HBel.out.trans HX5.out,.inr (.inr rfl)⟩
      case measure=>simp[intOf]
     ·go_wp2
      go_ret
      exact⟨rfl,HBel.out⟩
theorem Tabs.keepB {w w' : World}(h:Tabs w)(h2:1 < w.heap.size)(h1:0 < w.heap.size)(hb:Below w.heap.size w w'):Tabs w' :=
 ⟨fun j hj=>(hb.cell (p:=⟨0,j,none⟩) h1).trans (h.rcs j hj),fun j hj=>(hb.cell (p:=⟨1,j,none⟩) h2).trans (h.tus j hj)⟩
theorem known_any (w:World)(hT:Tabs w)(h2:2≤w.heap.size) :
  Calls Tryz.prog 7 #[] w fun e w' => e=.returned (.bool true)∧Below w.heap.size w w' ∧ w.heap.size+2≤w'.heap.size:=by
 obtain⟨x0,x1,hb0⟩:=two_boxes w #[.string ⟨#[97]⟩,.string ⟨#[98]⟩] (scriptC w.heap.size) 33 40
 have hs:((w.alloc (.cells #[.string ⟨#[97]⟩,.string ⟨#[98]⟩] 33)).alloc (.cells (scriptC w.heap.size) 40)).heap.size=w.heap.size+2:=by simp
 have hTb:TbZ ((w.alloc (.cells #[.string ⟨#[97]⟩,.string ⟨#[98]⟩] 33)).alloc (.cells (scriptC w.heap.size) 40)):=⟨hT.keepB (by omega) (by omega) hb0,by omega⟩
 have HP:=hide (played_known w.heap.size (w.heap.size+1) _ hTb x0 x1)
 have HB0:=hide hb0
 have HS:=hide hs
 unfold scriptC at HP HB0 HS
 clear x0 x1 hb0 hTb hs hT
 go_enter Tryz.func7,Tryz.ntmps7
 go_wp2_with fail
 refine HP.out.mono ?_
 rintro e w1 ⟨rfl,hb1⟩
 have HB1:=hide hb1
 clear hb1
 go_wp2
 go_ret
 exact⟨rfl,HB0.out.trans (HB1.out.mono HB0.out.size),by rw[←HS.out];exact HB1.out.size⟩
theorem rRootOf_any (ao:Option Addr)(cap:Nat)(ps:List Pr)(n:Nd)(w:World)(hp:Prs w ao ps)(hsz:∀p∈ps,p.1.size≤64∧p.2.size≠0)(hnd:(ps.map Prod.fst).Nodup)(hl:ps.length≤10000000)(hcb:CB n)(hF:Fs ps=n.flat []) :
  Calls Tryz.prog 12 #[.slice ao ps.length cap] w fun e w' => e=.returned (.string (rootOf n))∧Below w.heap.size w w' := by
 have HP:=hide hp
 have HS:=hide hsz
 have HD:=hide hnd
 have HF:=hide hF
 have HCB:=hide hcb
 clear hp hsz hnd hF hcb
 go_enter Tryz.func12,Tryz.ntmps12
 go_wp2_with fail
 have hR0:RTree ((w.alloc (.cells #[.slice none 0 0,.bool false] 74)).alloc (.cells #[.pointer (some ⟨w.heap.size,0,none⟩),.slice none 0 0] 77)) (w.heap.size+1) (.pointer (some ⟨w.heap.size,0,none⟩)) (.slice none 0 0) (Fs (ps.take 0)):=by
  refine⟨?_,.inl ⟨rfl,rfl⟩⟩
  have h:=heap_alloc_new (w.alloc (.cells #[.slice none 0 0,.bool false] 74)) (.cells #[.pointer (some ⟨w.heap.size,0,none⟩),.slice none 0 0] 77)
  simpa using h
 have hB0:Below w.heap.size w ((w.alloc (.cells #[.slice none 0 0,.bool false] 74)).alloc (.cells #[.pointer (some ⟨w.heap.size,0,none⟩),.slice none 0 0] 77)):=(below_alloc w _).alloc (by simp) _
 have HR0:=hide hR0
 have HB0:=hide hB0
 clear hR0 hB0
 generalize ((w.alloc (.cells #[.slice none 0 0,.bool false] 74)).alloc (.cells #[.pointer (some ⟨w.heap.size,0,none⟩),.slice none 0 0] 77))=W0 at *
 generalize hT:w.heap.size+1=T at *
 have HT:Hid (w.heap.size<T):=by show _<_;omega
 clear hT
 obtain⟨S,hS⟩:∃S,S=w.heap.size:=⟨_,rfl⟩
 go_loopw [4] (fun iv wr=>∃(j:Nat) (lv:Value),j≤ps.length∧iv=.int .i64 (j:Int)∧RTree wr T (.pointer (some ⟨w.heap.size,0,none⟩)) lv (Fs (ps.take j))∧Below w.heap.size w wr) (fun iv _=>ps.length - (intOf iv).toNat)
 case atStart=>exact⟨0,_,by omega,rfl,HR0.out,HB0.out⟩
 case round =>
  obtain⟨j,lv,hj,rfl,hrt,hbw⟩:=hrel
  obtain⟨la,ln,lc,rfl⟩:∃la ln lc,lv=.slice la ln lc:=by
   rcases hrt.list with⟨_,h⟩|⟨_,h⟩
   ·exact⟨_,_,_,h⟩
   ·obtain⟨a,c,h⟩:=h.shape
    exact⟨_,_,_,h⟩
  have HR:=hide hrt
  have HB:=hide hbw
  clear hrt hbw
  have j0:(0:Int)≤(j:Int):=by omega
  by_cases hjl:j<ps.length
  ·have j1:(j:Int)<(ps.length:Int):=by omega
   obtain⟨g,o,rfl,x0,x1⟩:=HP.out j hjl
   have HX:Hid (∀W,Below w.heap.size w W→W.cell? ⟨g,o+j*2,none⟩=some (.string (ps.getD j pr0).1)∧W.cell? ⟨g,o+j*2+1,none⟩=some (.string (ps.getD j pr0).2)):=fun W hW=>⟨(hW.cell (p:=⟨g,o+j*2,none⟩) (World.block_lt_of_cell? w _ x0)).trans x0,(hW.cell (p:=⟨g,o+j*2+1,none⟩) (World.block_lt_of_cell? w _ x1)).trans x1⟩
   have hpe:ps.getD j pr0=ps[j]:=by rw[List.getD_eq_getElem?_getD,List.getElem?_eq_getElem hjl];rfl
   have hmem:ps.getD j pr0∈ps:=by rw[hpe];exact List.getElem_mem hjl
   obtain⟨hk,hv⟩:=HS.out _ hmem
   have HSn:Hid (Fs (ps.take (j+1))=insF (Fs (ps.take j)) (pathN (ps.getD j pr0).1,(ps.getD j pr0).2)):=by
    show _=_
    rw[List.take_succ_eq_append_getElem hjl,Fs_snoc,hpe]
   have hsh:∀z∈Fs (ps.take j),z.1.length≤128:=fun z hz=>by
    obtain⟨q,hq,rfl⟩:=(Fs_mem _ z).1 hz
    have:=(HS.out q (List.mem_of_mem_take hq)).1
    simp only[pathN_length];omega
   have hno:∀z∈Fs (ps.take j),z.1≠pathN (ps.getD j pr0).1:=fun z hz e=>by
    obtain⟨q,hq,rfl⟩:=(Fs_mem _ z).1 hz
    have e2:q.1=(ps.getD j pr0).1:=key_inj e
    obtain⟨i,hi,rfl⟩:=List.getElem_of_mem hq
    have hij:i<j:=by simp at hi;omega
    have hnd:=List.pairwise_iff_getElem.1 HD.out i j (by simp;omega) (by simpa using hjl) hij
    apply hnd
    rw[List.getElem_take,hpe] at e2
    simpa using e2
   have hlF:(Fs (ps.take j)).length≤100000000:=by rw[Fs_len];simp;omega
   have HPut:=hide (fun pa pc W hb hp=>rPut_any (.pointer (some ⟨w.heap.size,0,none⟩)) (.slice la ln lc) T (Fs (ps.take j)) (ps.getD j pr0).1 (ps.getD j pr0).2 wr HR.out hsh hno hlF hk hv pa pc W hb hp)
   have HHv:=hide (fun W=>halves_path (ps.getD j pr0).1 W (by omega))
   have HNe:Hid (Fs (ps.take (j+1))≠[]):=fun e=>by have:=Fs_len (ps.take (j+1));rw[e] at this;simp at this;omega
   generalize ps.getD j pr0=q at *
   obtain⟨y0,y1⟩:=HX.out _ HB.out
   have hTl:T<wr.heap.size:=(aGe.1 HR.out.box).1
   have z0:wr.cell? ⟨T,0,none⟩=some (.pointer (some ⟨w.heap.size,0,none⟩)):=cell_of_row _ _ 0 _ _ (0,0) HR.out.box
   have z1:wr.cell? ⟨T,1,none⟩=some (.slice la ln lc):=cell_of_row _ _ 1 _ _ (0,0) HR.out.box
   have HTl:=hide hTl
   have hgl:g<w.heap.size:=World.block_lt_of_cell? w _ x0
   have hgT:¬g=T:=by have:=HT.out;omega
   have hTg:¬T=g:=by omega
   clear hgl
   clear x0 x1 hpe hmem hsh hno hlF hk hv hTl
   go_wp2_with fail
   refine wp_region_till 26 (fun W=>W.cell? ⟨T,0,none⟩=some (.pointer (some ⟨w.heap.size,0,none⟩))∧W.cell? ⟨T,1,none⟩=some (.slice la ln lc)∧W.cell? ⟨g,o+j*2,none⟩=some (.string q.1)∧W.cell? ⟨g,o+j*2+1,none⟩=some (.string q.2)) (by kernel_rfl) ?_
   have hHeld:wr.drew.cell? ⟨T,0,none⟩=some (.pointer (some ⟨w.heap.size,0,none⟩))∧wr.drew.cell? ⟨T,1,none⟩=some (.slice la ln lc)∧wr.drew.cell? ⟨g,o+j*2,none⟩=some (.string q.1)∧wr.drew.cell? ⟨g,o+j*2+1,none⟩=some (.string q.2):=⟨z0,z1,y0,y1⟩
   refine wpTill_take (i := 0) (oi := { dst := some 17, op := Op.move (Operand.tmp 3), type := 49, pos := "tree.go:613", after := #[], guard := none }) (v := ?_) rfl (by kernel_rfl) (fun _ _ _ h => h) (Or.inl ⟨by rfl, ?_⟩) (by assumption) ?_
   rotate_left
   ·(intro w hSw;(try dsimp only at hSw);go_simp;try with_reducible rfl)
   try simp only[Act.put,List.setIfInBounds_toArray,List.set_cons_zero,List.set_cons_succ]
   refine wpTill_take (i := 1) (oi := { dst := some 18, op := Op.move (Operand.tmp 3), type := 49, pos := "tree.go:613", after := #[], guard := none }) (v := ?_) rfl (by kernel_rfl) (fun _ _ _ h => h) (Or.inl ⟨by rfl, ?_⟩) (by assumption) ?_
   rotate_left
   ·(intro w hSw;(try dsimp only at hSw);go_simp;try with_reducible rfl)
   try simp only[Act.put,List.setIfInBounds_toArray,List.set_cons_zero,List.set_cons_succ]
   refine wpTill_take (i := 2) (oi := { dst := some 19, op := Op.nilCheck (Operand.tmp 18), type := 0, pos := "tree.go:613", after := #[{ on := 1, ground := Ground.data }], guard := none }) (v := ?_) rfl (by kernel_rfl) (fun _ _ _ h => h) (Or.inl ⟨by rfl, ?_⟩) (by assumption) ?_
   rotate_left
   ·(intro w hSw;(try dsimp only at hSw);go_simp;try with_reducible rfl)
   try simp only[Act.put,List.setIfInBounds_toArray,List.set_cons_zero,List.set_cons_succ]
   refine wpTill_take (i := 3) (oi := { dst := some 20, op := Op.fieldAddr 77 (Operand.tmp 19) 0, type := 0, pos := "tree.go:613", after := #[{ on := 2, ground := Ground.data }], guard := none }) (v := ?_) rfl (by kernel_rfl) (fun _ _ _ h => h) (Or.inl ⟨by rfl, ?_⟩) (by assumption) ?_
   rotate_left
   ·(intro w hSw;(try dsimp only at hSw);go_simp;try with_reducible rfl)
   try simp only[Act.put,List.setIfInBounds_toArray,List.set_cons_zero,List.set_cons_succ]
   refine wpTill_take (i := 4) (oi := { dst := some 21, op := Op.load 72 (Operand.tmp 20), type := 72, pos := "tree.go:613", after := #[{ on := 3, ground := Ground.data }], guard := none }) (v := ?_) rfl (by kernel_rfl) (fun _ _ _ h => h) (Or.inl ⟨by rfl, ?_⟩) (by assumption) ?_
   rotate_left
   ·(intro w hSw;(try dsimp only at hSw);go_simp;try with_reducible rfl)
   try simp only[Act.put,List.setIfInBounds_toArray,List.set_cons_zero,List.set_cons_succ]
   refine wpTill_take (i := 5) (oi := { dst := some 22, op := Op.move (Operand.tmp 3), type := 49, pos := "tree.go:613", after := #[], guard := none }) (v := ?_) rfl (by kernel_rfl) (fun _ _ _ h => h) (Or.inl ⟨by rfl, ?_⟩) (by assumption) ?_
   rotate_left
   ·(intro w hSw;(try dsimp only at hSw);go_simp;try with_reducible rfl)
   try simp only[Act.put,List.setIfInBounds_toArray,List.set_cons_zero,List.set_cons_succ]
   refine wpTill_take (i := 6) (oi := { dst := some 23, op := Op.nilCheck (Operand.tmp 22), type := 0, pos := "tree.go:613", after := #[{ on := 5, ground := Ground.data }], guard := none }) (v := ?_) rfl (by kernel_rfl) (fun _ _ _ h => h) (Or.inl ⟨by rfl, ?_⟩) (by assumption) ?_
   rotate_left
   ·(intro w hSw;(try dsimp only at hSw);go_simp;try with_reducible rfl)
   try simp only[Act.put,List.setIfInBounds_toArray,List.set_cons_zero,List.set_cons_succ]
   refine wpTill_take (i := 7) (oi := { dst := some 24, op := Op.fieldAddr 77 (Operand.tmp 23) 1, type := 0, pos := "tree.go:613", after := #[{ on := 6, ground := Ground.data }], guard := none }) (v := ?_) rfl (by kernel_rfl) (fun _ _ _ h => h) (Or.inl ⟨by rfl, ?_⟩) (by assumption) ?_
   rotate_left
   ·(intro w hSw;(try dsimp only at hSw);go_simp;try with_reducible rfl)
   try simp only[Act.put,List.setIfInBounds_toArray,List.set_cons_zero,List.set_cons_succ]
   refine wpTill_take (i := 8) (oi := { dst := some 25, op := Op.load 75 (Operand.tmp 24), type := 75, pos := "tree.go:613", after := #[{ on := 7, ground := Ground.data }], guard := none }) (v := ?_) rfl (by kernel_rfl) (fun _ _ _ h => h) (Or.inl ⟨by rfl, ?_⟩) (by assumption) ?_
   rotate_left
   ·(intro w hSw;(try dsimp only at hSw);go_simp;try with_reducible rfl)
   try simp only[Act.put,List.setIfInBounds_toArray,List.set_cons_zero,List.set_cons_succ]
   refine wpTill_take (i := 9) (oi := { dst := some 26, op := Op.move (Operand.tmp 0), type := 27, pos := "tree.go:613", after := #[], guard := none }) (v := ?_) rfl (by kernel_rfl) (fun _ _ _ h => h) (Or.inl ⟨by rfl, ?_⟩) (by assumption) ?_
   rotate_left
   ·(intro w hSw;(try dsimp only at hSw);go_simp;try with_reducible rfl)
   try simp only[Act.put,List.setIfInBounds_toArray,List.set_cons_zero,List.set_cons_succ]
   refine wpTill_take (i := 10) (oi := { dst := some 27, op := Op.move (Operand.tmp 4), type := 3, pos := "tree.go:613", after := #[], guard := none }) (v := ?_) rfl (by kernel_rfl) (fun _ _ _ h => h) (Or.inl ⟨by rfl, ?_⟩) (by assumption) ?_
   rotate_left
   ·(intro w hSw;(try dsimp only at hSw);go_simp;try with_reducible rfl)
   try simp only[Act.put,List.setIfInBounds_toArray,List.set_cons_zero,List.set_cons_succ]
   refine wpTill_take (i := 11) (oi := { dst := some 28, op := Op.indexAddr 27 (Operand.tmp 26) (Operand.tmp 27), type := 0, pos := "tree.go:613", after := #[{ on := 9, ground := Ground.data }, { on := 10, ground := Ground.data }], guard := none }) (v := ?_) rfl (by kernel_rfl) (fun _ _ _ h => h) (Or.inl ⟨by rfl, ?_⟩) (by assumption) ?_
   rotate_left
   ·(intro w hSw;(try dsimp only at hSw);go_simp;try with_reducible rfl)
   try simp only[Act.put,List.setIfInBounds_toArray,List.set_cons_zero,List.set_cons_succ]
   refine wpTill_take (i := 12) (oi := { dst := some 29, op := Op.fieldAddr 33 (Operand.tmp 28) 0, type := 0, pos := "tree.go:613", after := #[{ on := 11, ground := Ground.data }], guard := none }) (v := ?_) rfl (by kernel_rfl) (fun _ _ _ h => h) (Or.inl ⟨by rfl, ?_⟩) (by assumption) ?_
   rotate_left
   ·(intro w hSw;(try dsimp only at hSw);go_simp;try with_reducible rfl)
   try simp only[Act.put,List.setIfInBounds_toArray,List.set_cons_zero,List.set_cons_succ]
   refine wpTill_take (i := 13) (oi := { dst := some 30, op := Op.load 9 (Operand.tmp 29), type := 9, pos := "tree.go:613", after := #[{ on := 12, ground := Ground.data }], guard := none }) (v := ?_) rfl (by kernel_rfl) (fun _ _ _ h => h) (Or.inl ⟨by rfl, ?_⟩) (by assumption) ?_
   rotate_left
   ·(intro w hSw;(try dsimp only at hSw);go_simp;try with_reducible rfl)
   try simp only[Act.put,List.setIfInBounds_toArray,List.set_cons_zero,List.set_cons_succ]
   refine wpTill_take (i := 15) (oi := { dst := some 32, op := Op.move (Operand.tmp 0), type := 27, pos := "tree.go:613", after := #[], guard := none }) (v := ?_) rfl (by kernel_rfl) (fun _ _ _ h => h) (Or.inl ⟨by rfl, ?_⟩) (by assumption) ?_
   rotate_left
   ·(intro w hSw;(try dsimp only at hSw);go_simp;try with_reducible rfl)
   try simp only[Act.put,List.setIfInBounds_toArray,List.set_cons_zero,List.set_cons_succ]
   refine wpTill_take (i := 16) (oi := { dst := some 33, op := Op.move (Operand.tmp 4), type := 3, pos := "tree.go:613", after := #[], guard := none }) (v := ?_) rfl (by kernel_rfl) (fun _ _ _ h => h) (Or.inl ⟨by rfl, ?_⟩) (by assumption) ?_
   rotate_left
   ·(intro w hSw;(try dsimp only at hSw);go_simp;try with_reducible rfl)
   try simp only[Act.put,List.setIfInBounds_toArray,List.set_cons_zero,List.set_cons_succ]
   refine wpTill_take (i := 17) (oi := { dst := some 34, op := Op.indexAddr 27 (Operand.tmp 32) (Operand.tmp 33), type := 0, pos := "tree.go:613", after := #[{ on := 15, ground := Ground.data }, { on := 16, ground := Ground.data }], guard := none }) (v := ?_) rfl (by kernel_rfl) (fun _ _ _ h => h) (Or.inl ⟨by rfl, ?_⟩) (by assumption) ?_
   rotate_left
   ·(intro w hSw;(try dsimp only at hSw);go_simp;try with_reducible rfl)
   try simp only[Act.put,List.setIfInBounds_toArray,List.set_cons_zero,List.set_cons_succ]
   refine wpTill_take (i := 18) (oi := { dst := some 35, op := Op.fieldAddr 33 (Operand.tmp 34) 1, type := 0, pos := "tree.go:613", after := #[{ on := 17, ground := Ground.data }], guard := none }) (v := ?_) rfl (by kernel_rfl) (fun _ _ _ h => h) (Or.inl ⟨by rfl, ?_⟩) (by assumption) ?_
   rotate_left
   ·(intro w hSw;(try dsimp only at hSw);go_simp;try with_reducible rfl)
   try simp only[Act.put,List.setIfInBounds_toArray,List.set_cons_zero,List.set_cons_succ]
   refine wpTill_take (i := 19) (oi := { dst := some 36, op := Op.load 9 (Operand.tmp 35), type := 9, pos := "tree.go:613", after := #[{ on := 18, ground := Ground.data }], guard := none }) (v := ?_) rfl (by kernel_rfl) (fun _ _ _ h => h) (Or.inl ⟨by rfl, ?_⟩) (by assumption) ?_
   rotate_left
   ·(intro w hSw;(try dsimp only at hSw);go_simp;try with_reducible rfl)
   try simp only[Act.put,List.setIfInBounds_toArray,List.set_cons_zero,List.set_cons_succ]
   refine wpTill_one (i := 14) (o := { dst := some 31, op := Op.call { callee := Callee.value (Operand.func 21), args := #[Operand.tmp 30], argTypes := #[9] }, type := 80, pos := "tree.go:613", after := #[{ on := 13, ground := Ground.data }], guard := none }) (by kernel_rfl) rfl ?_
   intro K hK
   go_simp
   go_at_call 21
   refine (HHv.out _).mono ?_
   rintro e w3 ⟨pa,pc,rfl,hps,hb3⟩
   have HB3:Hid (Below wr.heap.size wr w3):=(Below.refl _ _).drew.trans hb3
   have HPs:=hide hps
   obtain⟨y03,y13⟩:=HX.out w3 (HB.out.trans (HB3.out.mono HB.out.size))
   have z03:w3.cell? ⟨T,0,none⟩=some (.pointer (some ⟨w.heap.size,0,none⟩)):=cell_of_row _ _ 0 _ _ (0,0) (HR.out.keep HB3.out).box
   have z13:w3.cell? ⟨T,1,none⟩=some (.slice la ln lc):=cell_of_row _ _ 1 _ _ (0,0) (HR.out.keep HB3.out).box
   clear hps hb3
   go_wp2_with fail
   refine hK.out _ _ (fun _=>⟨z03,z13,y03,y13⟩) ?_
   clear hK K hHeld
   have hHeld:=(⟨z03,z13,y03,y13⟩:w3.cell? ⟨T,0,none⟩=some (.pointer (some ⟨w.heap.size,0,none⟩))∧w3.cell? ⟨T,1,none⟩=some (.slice la ln lc)∧w3.cell? ⟨g,o+j*2,none⟩=some (.string q.1)∧w3.cell? ⟨g,o+j*2+1,none⟩=some (.string q.2))
   try simp only[Act.put,List.setIfInBounds_toArray,List.set_cons_zero,List.set_cons_succ]
   refine wpTill_one (i := 20) (o := { dst := some 37, op := Op.call { callee := Callee.value (Operand.func 20), args := #[Operand.tmp 21, Operand.tmp 25, Operand.tmp 31, Operand.tmp 36], argTypes := #[72, 75, 80, 9] }, type := 78, pos := "tree.go:613", after := #[{ on := 4, ground := Ground.data }, { on := 8, ground := Ground.data }, { on := 14, ground := Ground.data }, { on := 19, ground := Ground.data }, { on := 14, ground := Ground.chain }], guard := none }) (by kernel_rfl) rfl ?_
   intro K hK
   go_simp
   go_at_call 20
   refine (HPut.out _ _ _ HB3.out HPs.out).mono ?_
   rintro e w4 ⟨rv,rfl,hr4,hb4⟩
   obtain⟨ra,rc,rfl⟩:=hr4.shape
   have HB4:Hid (Below wr.heap.size wr w4):=HB3.out.trans (hb4.mono HB3.out.size)
   have HR4:=hide hr4
   obtain⟨y04,y14⟩:=HX.out w4 (HB.out.trans (HB4.out.mono HB.out.size))
   have z04:w4.cell? ⟨T,0,none⟩=some (.pointer (some ⟨w.heap.size,0,none⟩)):=cell_of_row _ _ 0 _ _ (0,0) (HR.out.keep HB4.out).box
   have z14:w4.cell? ⟨T,1,none⟩=some (.slice la ln lc):=cell_of_row _ _ 1 _ _ (0,0) (HR.out.keep HB4.out).box
   have f14:w4.frozen? ⟨T,1,none⟩=false:=frozen_of_row _ _ 1 _ _ (HR.out.keep HB4.out).box
   clear hr4 hb4
   go_wp2_with fail
   refine hK.out _ _ (fun _=>⟨z04,z14,y04,y14⟩) ?_
   clear hK K hHeld
   have hHeld:=(⟨z04,z14,y04,y14⟩:w4.cell? ⟨T,0,none⟩=some (.pointer (some ⟨w.heap.size,0,none⟩))∧w4.cell? ⟨T,1,none⟩=some (.slice la ln lc)∧w4.cell? ⟨g,o+j*2,none⟩=some (.string q.1)∧w4.cell? ⟨g,o+j*2+1,none⟩=some (.string q.2))
   try simp only[Act.put,List.setIfInBounds_toArray,List.set_cons_zero,List.set_cons_succ]
   refine wpTill_take (i := 21) (oi := { dst := some 16, op := Op.move (Operand.tmp 37), type := 78, pos := "tree.go:613", after := #[{ on := 20, ground := Ground.data }], guard := none }) (v := ?_) rfl (by kernel_rfl) (fun _ _ _ h => h) (Or.inl ⟨by rfl, ?_⟩) (by assumption) ?_
   rotate_left
   ·(intro w hSw;(try dsimp only at hSw);go_simp;try with_reducible rfl)
   try simp only[Act.put,List.setIfInBounds_toArray,List.set_cons_zero,List.set_cons_succ]
   refine wpTill_take (i := 22) (oi := { dst := some 38, op := Op.extract (Operand.tmp 16) 0, type := 75, pos := "tree.go:613", after := #[{ on := 21, ground := Ground.data }], guard := none }) (v := ?_) rfl (by kernel_rfl) (fun _ _ _ h => h) (Or.inl ⟨by rfl, ?_⟩) (by assumption) ?_
   rotate_left
   ·(intro w hSw;(try dsimp only at hSw);go_simp;try with_reducible rfl)
   try simp only[Act.put,List.setIfInBounds_toArray,List.set_cons_zero,List.set_cons_succ]
   refine wpTill_pure (i := 23) (oi := { dst := some 39, op := Op.extract (Operand.tmp 16) 1, type := 3, pos := "tree.go:613", after := #[{ on := 21, ground := Ground.data }, { on := 26, ground := Ground.gcOnly Departure.lateStores }], guard := none }) (v := ?_) rfl (by kernel_rfl) (fun _ _ _ h => h) (Or.inl ⟨by rfl, ?_⟩) (by assumption) ?_
   rotate_left
   ·(intro w hSw;(try dsimp only at hSw);go_simp;try with_reducible rfl)
   try simp only[Act.put,List.setIfInBounds_toArray,List.set_cons_zero,List.set_cons_succ]
   refine wpTill_pure (i := 24) (oi := { dst := some 40, op := Op.nilCheck (Operand.tmp 17), type := 0, pos := "tree.go:613", after := #[{ on := 0, ground := Ground.data }, { on := 0, ground := Ground.phase }, { on := 1, ground := Ground.phase }, { on := 2, ground := Ground.phase }, { on := 3, ground := Ground.phase }, { on := 4, ground := Ground.phase }, { on := 5, ground := Ground.phase }, { on := 6, ground := Ground.phase }, { on := 7, ground := Ground.phase }, { on := 8, ground := Ground.phase }, { on := 9, ground := Ground.phase }, { on := 10, ground := Ground.phase }, { on := 11, ground := Ground.phase }, { on := 12, ground := Ground.phase }, { on := 13, ground := Ground.phase }, { on := 14, ground := Ground.phase }, { on := 15, ground := Ground.phase }, { on := 16, ground := Ground.phase }, { on := 17, ground := Ground.phase }, { on := 18, ground := Ground.phase }, { on := 19, ground := Ground.phase }, { on := 20, ground := Ground.phase }, { on := 21, ground := Ground.phase }, { on := 22, ground := Ground.phase }, { on := 23, ground := Ground.textOnly Departure.lateStores }], guard := none }) (v := ?_) rfl (by kernel_rfl) (fun _ _ _ h => h) (Or.inl ⟨by rfl, ?_⟩) (by assumption) ?_
   rotate_left
   ·(intro w hSw;(try dsimp only at hSw);go_simp;try with_reducible rfl)
   try simp only[Act.put,List.setIfInBounds_toArray,List.set_cons_zero,List.set_cons_succ]
   refine wpTill_take (i := 25) (oi := { dst := some 41, op := Op.fieldAddr 77 (Operand.tmp 40) 1, type := 0, pos := "tree.go:613", after := #[{ on := 24, ground := Ground.data }, { on := 0, ground := Ground.phase }, { on := 1, ground := Ground.phase }, { on := 2, ground := Ground.phase }, { on := 3, ground := Ground.phase }, { on := 4, ground := Ground.phase }, { on := 5, ground := Ground.phase }, { on := 6, ground := Ground.phase }, { on := 7, ground := Ground.phase }, { on := 8, ground := Ground.phase }, { on := 9, ground := Ground.phase }, { on := 10, ground := Ground.phase }, { on := 11, ground := Ground.phase }, { on := 12, ground := Ground.phase }, { on := 13, ground := Ground.phase }, { on := 14, ground := Ground.phase }, { on := 15, ground := Ground.phase }, { on := 16, ground := Ground.phase }, { on := 17, ground := Ground.phase }, { on := 18, ground := Ground.phase }, { on := 19, ground := Ground.phase }, { on := 20, ground := Ground.phase }, { on := 21, ground := Ground.phase }, { on := 22, ground := Ground.phase }, { on := 23, ground := Ground.textOnly Departure.lateStores }], guard := none }) (v := ?_) rfl (by kernel_rfl) (fun _ _ _ h => h) (Or.inl ⟨by rfl, ?_⟩) (by assumption) ?_
   rotate_left
   ·(intro w hSw;(try dsimp only at hSw);go_simp;try with_reducible rfl)
   try simp only[Act.put,List.setIfInBounds_toArray,List.set_cons_zero,List.set_cons_succ]
   refine wpTill_one (i := 26) (o := { dst := none, op := Op.store 75 (Operand.tmp 41) (Operand.tmp 38), type := 0, pos := "tree.go:613", after := #[{ on := 25, ground := Ground.data }, { on := 22, ground := Ground.data }, { on := 20, ground := Ground.chain }, { on := 0, ground := Ground.phase }, { on := 1, ground := Ground.phase }, { on := 2, ground := Ground.phase }, { on := 3, ground := Ground.phase }, { on := 4, ground := Ground.phase }, { on := 5, ground := Ground.phase }, { on := 6, ground := Ground.phase }, { on := 7, ground := Ground.phase }, { on := 8, ground := Ground.phase }, { on := 9, ground := Ground.phase }, { on := 10, ground := Ground.phase }, { on := 11, ground := Ground.phase }, { on := 12, ground := Ground.phase }, { on := 13, ground := Ground.phase }, { on := 14, ground := Ground.phase }, { on := 15, ground := Ground.phase }, { on := 16, ground := Ground.phase }, { on := 17, ground := Ground.phase }, { on := 18, ground := Ground.phase }, { on := 19, ground := Ground.phase }, { on := 20, ground := Ground.phase }, { on := 21, ground := Ground.phase }, { on := 22, ground := Ground.phase }, { on := 23, ground := Ground.textOnly Departure.lateStores }], guard := none }) (by kernel_rfl) rfl ?_
   intro K hK
   go_simp
   refine hK.out _ _ (fun h=>absurd rfl h) ?_
   refine wpTill_done (by kernel_rfl) ?_ _
   clear hK K hHeld
   try simp only[Act.put,List.setIfInBounds_toArray,List.set_cons_zero,List.set_cons_succ]
   have h4:=HR4.out
   rw[List.length_map] at h4
   have hset:=HR.out.set HB4.out (B:=w3.heap.size) (Nat.lt_of_lt_of_le HTl.out HB3.out.size) h4 (by rw[←HSn.out];exact HNe.out)
   rw[←HSn.out] at hset
   have HSet:=hide hset
   have HBS:Hid (Below w.heap.size w (w4.setCell ⟨T,1,none⟩ (.slice ra (insF (Fs (ps.take j)) (pathN q.1,q.2)).length rc))):=(HB.out.trans (HB4.out.mono HB.out.size)).setCell (p:=⟨T,1,none⟩) (by have:=HT.out;show _≤T;omega) _
   clear h4 hset
   rw[←HSn.out] at HBS
   rw[←HSn.out]
   go_wp2
   go_roundw
   case rel=>exact⟨j+1,_,by omega,by go_num,HSet.out,HBS.out⟩
   case measure=>simp[intOf];omega
  ·obtain rfl:j=ps.length:=by omega
   have HE:Hid (ps.take ps.length=ps):=List.take_length
   rw[HE.out,HF.out] at HR
   have hlF:(n.flat []).length≤100000000:=by rw[←HF.out,Fs_len];omega
   have hsh:∀z∈n.flat [],z.1.length≤128:=fun z hz=>by
    rw[←HF.out] at hz
    obtain⟨q,hq,rfl⟩:=(Fs_mem _ z).1 hz
    have:=(HS.out q hq).1
    simp only[pathN_length];omega
   have HRt:=hide (rRoot_any T _ (.slice la ln lc) n wr HR.out HCB.out hsh hlF)
   clear hlF hsh
   go_wp2_with fail
   refine HRt.out.mono ?_
   rintro e w5 ⟨rfl,hb5⟩
   go_wp2
   go_ret
   exact⟨rfl,HB.out.trans (hb5.mono HB.out.size)⟩
end Go.Proofs.YthdjmldddjljfaaGreatDoor
namespace Go.Proofs.YthdjmldddjljfaaGreatDoor
open Go.RowKit
def prC (xs:List Pr):List Value:=xs.flatMap fun x=>[.string x.1,.string x.2]
theorem prC_snoc (xs:List Pr)(x:Pr):prC (xs++[x])=prC xs++[.string x.1,.string x.2]:=by simp[prC]
theorem prC_get (xs:List Pr)(i:Nat)(h:i<xs.length):(prC xs)[i*2]? = some (.string (xs.getD i pr0).1)∧(prC xs)[i*2+1]? = some (.string (xs.getD i pr0).2):=by
 induction xs generalizing i with
 | nil=>simp at h
 | cons x xs ih =>
   have e:prC (x :: xs)=.string x.1 :: .string x.2 :: prC xs:=rfl
   rw[e]
   cases i with
   | zero=>simp
   | succ i =>
     have:=ih i (by simpa using h)
     rw[show (i+1)*2=i*2+1+1 from by omega]
     simpa using this
theorem Prs.ofRow {w:World}{base c:Nat}{ao:Option Addr}{ps:List Pr}(h:w.ownsRow base 33 2 (.slice ao ps.length c) ps.length (prC ps)):Prs w ao ps:=by
 intro i hi
 rcases h.2 with⟨_,h0⟩|⟨g,c', cur,hh,_⟩
 ·omega
 ·injection hh with hh1 _ _
  obtain⟨k1,k2⟩:=prC_get ps i hi
  have c1:=h.cells (g:=g) (by rw[hh1];rfl) _ _ k1
  have c2:=h.cells (g:=g) (by rw[hh1];rfl) _ _ k2
  rw[addr_add] at c1 c2
  exact⟨g,0,hh1,c1,c2⟩
theorem prs_new (w:World)(k v:ByteArray):Prs (w.alloc (.cells #[.string k,.string v] 33)) (some ⟨w.heap.size,0,none⟩) [(k,v)]:=by
 have h:=heap_alloc_new w (.cells #[.string k,.string v] 33)
 intro j hj
 obtain rfl:j=0:=by simpa using hj
 exact⟨_,0,rfl,cell_of_row _ _ 0 _ _ (0,0) h,cell_of_row _ _ 1 _ _ (0,0) h⟩
theorem text_inj {a b:ByteArray}(h:a.toList=b.toList):a=b:=by
 rw[ByteArray.toList_eq,ByteArray.toList_eq] at h
 exact ByteArray.ext (Array.toList_inj.1 h)
structure RoSt (w wr:World)(T:Nat)(st mv:Value)(n:Nd)(m:List Pr):Prop where
 rel:RelM n m
 tok:TOk n
 tree:∃ok base,TreeAt HkC ok wr T st n∧(∀k,ok k→w.heap.size≤k∧k<base)∧w.heap.size≤base∧base≤wr.heap.size∧wr.ownsRow base 33 2 mv m.length (prC m)
 bel:Below w.heap.size w wr
 ge:w.heap.size≤T
theorem RoSt.keep {w wr w' : World}{T:Nat}{st mv:Value}{n:Nd}{m:List Pr}(h:RoSt w wr T st mv n m)(hb:Below wr.heap.size wr w'):RoSt w w' T st mv n m:=by
 obtain⟨ok,base,h1,h2,h3,h4,h5⟩:=h.tree
 exact⟨h.rel,h.tok,⟨ok,base,h1.keep hb,h2,h3,Nat.le_trans h4 hb.size,own_far h5 (fun g _ hl=>hb.block g hl)⟩,h.bel.trans (hb.mono h.bel.size),h.ge⟩
theorem RoSt.shape {w wr:World}{T:Nat}{st mv:Value}{n:Nd}{m:List Pr}(h:RoSt w wr T st mv n m):∃ma mc,mv=.slice ma m.length mc∧Prs wr ma m:=by
 obtain⟨ok,base,h1,h2,h3,h4,h5⟩:=h.tree
 obtain⟨ma,mc,rfl⟩:=ownsRow_slice h5
 exact⟨ma,mc,rfl,Prs.ofRow h5⟩
theorem RoSt.put {w wr W w' : World}{T:Nat}{st:Value}{ma:Option Addr}{mc:Nat}{n:Nd}{m:List Pr}{k v:ByteArray}(h:RoSt w wr T st (.slice ma m.length mc) n m)(hb:Below wr.heap.size wr W){ok:Nat→Prop}(hA:TreeAt HkC ok W T st n)(hok:∀j,ok j→w.heap.size≤j)(hO:Only T W w')(hT:TreeAt HkC (okTo ok W w') w' T st (setAll n [(k,v)])):∃ok', TreeAt HkC ok' w' T st (n.set (pathN k) v)∧(∀j,ok' j→w.heap.size≤j)∧Prs w' ma m∧Below w.heap.size w w' := by
 have hbW:=h.bel.trans (hb.mono h.bel.size)
 refine⟨okTo ok W w', hT,fun j hj=>?_,?_,?_⟩
 ·rcases hj with hj|hj
  ·exact hok j hj
  ·exact Nat.le_trans hbW.size hj.1
 ·have hp:=h.shape
  obtain⟨_,base,h1,h2,h3,h4,h5⟩:=h.tree
  obtain⟨u,hu,_⟩:=hA.held
  refine Prs.ofRow (base:=base) (c:=mc) (own_far h5 (fun g hg hl=>?_))
  obtain⟨_,cur,hc⟩:=ownsRow_type h5 g hg
  have hc2:=(hb.block g hl).trans hc
  rw[hO.block g (Nat.lt_of_lt_of_le hl hb.size) (fun e=>by
   obtain rfl:g=T:=by simpa using e
   rw[hu] at hc2
   injection hc2 with hc2
   injection hc2 with _ hc2 _
   exact absurd hc2 (by decide))]
  exact hb.block g hl
 ·exact⟨hO.os.trans hbW.os,hO.tape.trans hbW.tape,hO.output.trans hbW.output,Nat.le_trans hbW.size hO.size,fun j hj=>(hO.block j (Nat.lt_of_lt_of_le hj hbW.size) (fun e=>by
   obtain rfl:j=T:=by simpa using e
   have:=h.ge;omega)).trans (hbW.block j hj)⟩
end Go.Proofs.YthdjmldddjljfaaGreatDoor
namespace Go.Proofs.YthdjmldddjljfaaGreatDoor
open Go.RowKit
attribute [local go_sem ↓] Go.wp_at_zero Go.wp_at_succ
theorem roots_walk (ao:Option Addr)(cap:Nat)(ps:List Pr)(w:World)(hT:Tabs w)(h2:2≤w.heap.size)(hp:Prs w ao ps)(hl:ps.length≤10000000) :
  Calls Tryz.prog 4 #[.slice ao ps.length cap] w fun e w' => e=.returned (.bool true)∧Below w.heap.size w w' := by
 obtain⟨i0,hi0,hz0,hz1,hz2⟩:=info_parts infoPr
 have HT:=hide hT
 have HPs0:=hide hp
 have HKn:=hide (known_any w hT h2)
 have HN:=hide (fun W=>cNew_none HkC W)
 clear hT hp
 go_enter Tryz.func4,Tryz.ntmps4
 go_wp2_with fail
 refine HKn.out.mono ?_
 rintro e w1 ⟨rfl,hb1,hs1⟩
 have HB1:=hide hb1
 have HTb:Hid (TbZ w1):=⟨HT.out.keepB (by omega) (by omega) hb1,by omega⟩
 have HPs:Hid (Prs w1 ao ps):=HPs0.out.keep hb1
 clear hb1 hs1 HPs0 HT
 go_wp2_with fail
 refine (HN.out w1).mono ?_
 rintro e w2 ⟨T,M,rfl,_,_,h3,_,_,h6,hb2⟩
 have HSt:Hid (RoSt w1 w2 T (.map (some M)) (.slice none 0 0) .nil []):=⟨RelM.nil,TOk.nil,⟨_,w2.heap.size,h6,fun k hk=>hk.elim,hb2.size,Nat.le_refl _,World.ownsRow_nil _ _ _ _⟩,hb2,h3⟩
 clear h3 h6 hb2 HKn HN
 unfold ptr
 go_wp2_with fail
 go_loopw [6,7] (fun mv iv wr=>∃(i:Nat) (m:List Pr) (n:Nd) (ma:Option Addr) (mc:Nat),i≤ps.length∧iv=.int .i64 (i:Int)∧mv=.slice ma m.length mc∧m.length≤i∧RoSt w1 wr T (.map (some M)) (.slice ma m.length mc) n m) (fun _ iv _=>ps.length - (intOf iv).toNat)
 case atStart=>exact⟨0,[],.nil,none,0,by omega,rfl,rfl,by simp,HSt.out⟩
 case round =>
  obtain⟨i,m,n,ma,mc,hi,rfl,rfl,hml,hst⟩:=hrel
  have HS:=hide hst
  clear hst
  have j0:(0:Int)≤(i:Int):=by omega
  by_cases hil:i<ps.length
  ·have j1:(i:Int)<(ps.length:Int):=by omega
   obtain⟨g,o,rfl,x0,x1⟩:=HPs.out.keep HS.out.bel i hil
   generalize ps.getD i pr0=q at *
   obtain⟨k,v⟩:=q
   dsimp only at x0 x1
   have HB8:=hide (two_boxes wr #[.string k,.string v] #[.string k,.string v] 33 33)
   have HPr:Hid (Prs ((wr.alloc (.cells #[.string k,.string v] 33)).alloc (.cells #[.string k,.string v] 33)) (some ⟨wr.heap.size+1,0,none⟩) [(k,v)]):=by
    have h:=prs_new (wr.alloc (.cells #[.string k,.string v] 33)) k v
    rwa [World.size_alloc] at h
   have HS2:=hide (HS.out.keep HB8.out.2.2)
   by_cases hfit:k.size≤64∧v.size≤400
   ·have k1:(k.size:Int)≤64:=by omega
    have v1:(v.size:Int)≤400:=by omega
    obtain⟨ok,base,ht,hok,-,-,-⟩:=HS2.out.tree
    have HPut:=hide (cPut_any HkC HkC.ne ok T (.map (some M)) n (some ⟨wr.heap.size+1,0,none⟩) 1 [(k,v)] _ ht HS2.out.tok HPr.out (by intro p hp;simp at hp;rw[hp];exact hfit) (by simp))
    have HTo:=hide (And.intro ht (fun j hj=>(hok j hj).1))
    have HF:=hide hfit
    clear ht hok hfit
    unfold ptr at HPut
    go_wp2_with fail
    refine HPut.out.mono ?_
    rintro e W3 ⟨rfl,hO3,hT3⟩
    obtain⟨ok3,t3,o3,p3,b3⟩:=HS.out.put HB8.out.2.2 HTo.out.1 HTo.out.2 hO3 hT3
    have hTy:wr.heap.size≠T:=fun e=>by
     obtain⟨u,hu,_⟩:=HTo.out.1.held
     rw[←e,HB8.out.1] at hu
     injection hu with hu
     injection hu with _ hu _
     exact absurd hu (by decide)
    have hb8:W3.heap[wr.heap.size]? = some (.cells #[.string k,.string v] 33 (0,0)):=by
     rw[hO3.block _ (aGe.1 HB8.out.1).1 (by simpa using hTy)]
     exact HB8.out.1
    have HW:=hide (And.intro t3 (And.intro o3 (And.intro p3 (And.intro b3 hb8))))
    have HRel:=hide (And.intro (HS.out.rel.step HS.out.tok (p:=(k,v)) HF.out.1) (HS.out.tok.set (pathN_lt k) (by rw[pathN_length];have:=HF.out.1;omega) (v:=v) HF.out.2))
    have HGe:=hide HS.out.ge
    have y0:W3.cell? ⟨wr.heap.size,0,none⟩=some (.string k):=cell_of_row _ _ 0 _ _ (0,0) hb8
    have y1:W3.cell? ⟨wr.heap.size,1,none⟩=some (.string v):=cell_of_row _ _ 1 _ _ (0,0) hb8
    clear hO3 hT3 t3 o3 p3 b3 hTy hb8 HPut HPr HTo HB8 HS2
    generalize wr.heap.size=b8 at *
    go_wp2_with fail
    have HFl:Hid (∀j,j<m.length→∀t:Pr,m.getD j pr0=t→(m.take (j+1)).filter (fun q=>decide (q.1≠k))=(m.take j).filter (fun q=>decide (q.1≠k))++(if t.1=k then [] else [t])):=fun j hj t ht=>by
     rw[List.take_succ_eq_append_getElem hj,List.filter_append]
     have e:m[j]=t:=by rw[←ht,List.getD_eq_getElem?_getD,List.getElem?_eq_getElem hj];rfl
     rw[e]
     by_cases h:t.1=k
     ·simp[h]
     ·simp[h]
    go_loopw [10,11] (fun nv kv W=>∃(j:Nat) (na:Option Addr) (nl nc:Nat),j≤m.length∧kv=.int .i64 (j:Int)∧nv=.slice na nl nc∧nl=((m.take j).filter (fun q=>decide (q.1≠k))).length∧W.ownsRow W3.heap.size 33 2 (.slice na nl nc) nl (prC ((m.take j).filter (fun q=>decide (q.1≠k))))∧Below W3.heap.size W3 W) (fun _ kv _=>m.length - (intOf kv).toNat)
    case atStart=>exact⟨0,none,0,0,by omega,rfl,rfl,by simp,World.ownsRow_nil _ _ _ _,Below.refl _ _⟩
    case round =>
     obtain⟨j,na,nl,nc,hj,rfl,rfl,hnl,hno,hbj⟩:=hrel
     have HNo:=hide hno
     have HBj:=hide hbj
     have HNl:=hide hnl
     have jj0:(0:Int)≤(j:Int):=by omega
     have z0:wr.cell? ⟨b8,0,none⟩=some (.string k):=(hbj.cell (p:=⟨b8,0,none⟩) (World.block_lt_of_cell? W3 _ y0)).trans y0
     have z1:wr.cell? ⟨b8,1,none⟩=some (.string v):=(hbj.cell (p:=⟨b8,1,none⟩) (World.block_lt_of_cell? W3 _ y1)).trans y1
     clear hno hbj hnl
     by_cases hjl:j<m.length
     ·have jj1:(j:Int)<(m.length:Int):=by omega
      obtain⟨mg,mo,rfl,c0,c1⟩:=HW.out.2.2.1.keep HBj.out j hjl
      obtain⟨t,ht⟩:∃t,m.getD j pr0=t:=⟨_,rfl⟩
      have HFj:=hide (HFl.out j hjl t ht)
      rw[ht] at c0 c1
      clear ht
      obtain⟨tk,tv⟩:=t
      dsimp only at c0 c1
      by_cases hq:tk=k
      ·have HFe:Hid ((m.take (j+1)).filter (fun q=>decide (q.1≠k))=(m.take j).filter (fun q=>decide (q.1≠k))):=by
        show _=_
        rw[HFj.out,if_pos hq,List.append_nil]
       rw[hq] at c0
       clear hq HFj
       go_wp2_with fail
       go_region
       all_goals
        go_wp2
        go_roundw
        case rel=>exact⟨j+1,na,nl,nc,by omega,by go_num,rfl,by rw[HFe.out];exact HNl.out,by rw[HFe.out];exact HNo.out.drew,HBj.out.drew⟩
        case measure=>simp[intOf];omega
      ·have HFe:Hid ((m.take (j+1)).filter (fun q=>decide (q.1≠k))=(m.take j).filter (fun q=>decide (q.1≠k))++[(tk,tv)]):=by
        show _=_
        rw[HFj.out,if_neg hq]
       have HLe:Hid (nl≤10000000):=by
        have h1:=HNl.out
        have h2:=List.length_filter_le (fun q:Pr=>decide (q.1≠k)) (m.take j)
        have h3:(m.take j).length≤m.length:=by simp;omega
        show _≤_
        omega
       have hq2:(tk.toList == k.toList)=false:=by
        rw[beq_eq_false_iff_ne]
        exact fun e=>hq (text_inj e)
       have hn1:=HLe.out
       clear HFj
       go_wp2_with fail
       go_region
       all_goals
        have HO2:=hide ((HNo.out.drew).alloc (.cells #[.string tk,.string tv] 33))
        have HNews:Hid (∀jx u,[Value.string tk,.string tv][jx]? = some u→(wr.drew.alloc (.cells #[.string tk,.string tv] 33)).cell? ((⟨wr.heap.size,0,none⟩:Addr).add jx)=some u):=World.news_of_block (cs:=#[.string tk,.string tv]) (heap_alloc_new wr.drew (.cells #[.string tk,.string tv] 33))
        have HB2:Hid (Below W3.heap.size W3 (wr.drew.alloc (.cells #[.string tk,.string tv] 33))):=HBj.out.drew.alloc HBj.out.size _
        go_wp2_with (at_builtin;go_must (refine wpList_append_lies _ rfl (.tmp 75) (.tmp 80) 27 rfl W3.heap.size 33 i0 _ 2 32 Tryz.underlying27 hi0 hz0 hz1 hz2 rfl (by omega) (.slice na nl nc) nl _ rfl HO2.out ⟨wr.heap.size,0,none⟩ 1 1 [.string tk,.string tv] rfl rfl HNews.out (by simp[Value.oneCell']) (by omega) (by unfold maxLen;omega) (by omega) HB2.out.size _ rfl ?_);intro g4 c4 w4 ho4 hg4 hat4 hlt4;go_must (have HX4:=hide (And.intro ho4 hg4));clear ho4 hg4 hat4 hlt4)
        go_roundw
        case rel=>exact⟨j+1,some ⟨g4,0,none⟩,nl+1,c4,by omega,by go_num,rfl,by rw[HFe.out,List.length_append,←HNl.out];rfl,by rw[HFe.out,prC_snoc];exact HX4.out.1,HB2.out.grown HX4.out.2 HB2.out.size (own_ge HO2.out (Nat.le_refl _))⟩
        case measure=>simp[intOf];omega
     ·obtain rfl:j=m.length:=by omega
      have HFe:Hid ((m.take m.length).filter (fun q=>decide (q.1≠k))=m.filter (fun q=>decide (q.1≠k))):=by
       show _=_
       rw[List.take_length]
      have HNo2:Hid (wr.ownsRow W3.heap.size 33 2 (.slice na nl nc) nl (prC (m.filter (fun q=>decide (q.1≠k))))):=by
       have h:=HNo.out
       rw[HFe.out] at h
       exact h
      have HNl2:Hid (nl=(m.filter (fun q=>decide (q.1≠k))).length):=by
       have h:=HNl.out
       rw[HFe.out] at h
       exact h
      have HLe:Hid (nl≤m.length):=by
       have h2:=List.length_filter_le (fun q:Pr=>decide (q.1≠k)) m
       show _≤_
       rw[HNl2.out];exact h2
      have HEnd:Hid (∀W mv', Below W3.heap.size W3 W→W.ownsRow W3.heap.size 33 2 mv' (stepM m (k,v)).length (prC (stepM m (k,v)))→RoSt w1 W T (.map (some M)) mv' (n.set (pathN k) v) (stepM m (k,v))):=fun W mv' hW ho=>by
       obtain⟨t3,o3,p3,b3,_⟩:=HW.out
       exact⟨HRel.out.1,HRel.out.2,⟨ok3,W3.heap.size,t3.keep hW,fun jx hjx=>⟨o3 jx hjx,(t3.blk jx hjx).1⟩,b3.size,hW.size,ho⟩,b3.trans (hW.mono b3.size),HGe.out⟩
      clear HNo HNl HFe
      by_cases hv:v=⟨#[]⟩
      ·have HSm:Hid (stepM m (k,v)=m.filter (fun q=>decide (q.1≠k))):=by
        show _=_
        unfold stepM
        rw[if_pos (by rw[hv];rfl),List.append_nil]
       have HEn2:=hide (HEnd.out wr (.slice na nl nc) HBj.out (by rw[HSm.out,←HNl2.out];exact HNo2.out))
       rw[hv] at z1
       go_wp2
       go_roundw
       case rel=>exact⟨i+1,stepM m (k,v),n.set (pathN k) v,na,nc,by omega,by go_num,by rw[HSm.out,←HNl2.out],by rw[HSm.out,←HNl2.out];have:=HLe.out;omega,by rw[HSm.out,←HNl2.out,←HSm.out];exact HEn2.out⟩
       case measure=>simp[intOf];omega
      ·have HSm:Hid (stepM m (k,v)=m.filter (fun q=>decide (q.1≠k))++[(k,v)]):=by
        show _=_
        unfold stepM
        show _++(if v.size=0 then [] else [(k,v)])=_
        have hsz:¬v.size=0:=fun e=>hv (ByteArray.ext (Array.eq_empty_of_size_eq_zero e))
        rw[if_neg hsz]
       have hv2:v.toList.isEmpty=false:=by
        cases h:v.toList with
        | nil=>exact absurd (text_inj (h.trans (by rw[ByteArray.toList_eq]))) hv
        | cons=>rfl
       have HO2:=hide (HNo2.out.alloc (.cells #[.string k,.string v] 33))
       have HNews:Hid (∀jx u,[Value.string k,.string v][jx]? = some u→(wr.alloc (.cells #[.string k,.string v] 33)).cell? ((⟨wr.heap.size,0,none⟩:Addr).add jx)=some u):=World.news_of_block (cs:=#[.string k,.string v]) (heap_alloc_new wr (.cells #[.string k,.string v] 33))
       have HB2:Hid (Below W3.heap.size W3 (wr.alloc (.cells #[.string k,.string v] 33))):=HBj.out.alloc HBj.out.size _
       have hn1:=HLe.out
       go_wp2_with (at_builtin;go_must (refine wpList_append_lies _ rfl (.tmp 86) (.tmp 88) 27 rfl W3.heap.size 33 i0 _ 2 32 Tryz.underlying27 hi0 hz0 hz1 hz2 rfl (by omega) (.slice na nl nc) nl _ rfl HO2.out ⟨wr.heap.size,0,none⟩ 1 1 [.string k,.string v] rfl rfl HNews.out (by simp[Value.oneCell']) (by omega) (by unfold maxLen;omega) (by omega) HB2.out.size _ rfl ?_);intro g4 c4 w4 ho4 hg4 hat4 hlt4;go_must (have HX4:=hide (And.intro ho4 hg4));clear ho4 hg4 hat4 hlt4)
       have hlen:(stepM m (k,v)).length=nl+1:=by rw[HSm.out,List.length_append,←HNl2.out];rfl
       have HEn2:=hide (HEnd.out w4 (.slice (some ⟨g4,0,none⟩) (nl+1) c4) (HB2.out.grown HX4.out.2 HB2.out.size (own_ge HO2.out (Nat.le_refl _))) (by rw[hlen,HSm.out,prC_snoc];exact HX4.out.1))
       go_roundw
       case rel=>exact⟨i+1,stepM m (k,v),n.set (pathN k) v,some ⟨g4,0,none⟩,c4,by omega,by go_num,by rw[hlen],by rw[hlen];omega,by rw[hlen];exact HEn2.out⟩
       case measure=>simp[intOf];omega
   ·have HPut:=hide (cPut_long T (wr.heap.size+1) 0 1 k v _ HPr.out hfit)
    unfold ptr at HPut
    have HB0:=hide HB8.out.2.2
    by_cases hk:k.size≤64
    ·have hE:longE k=9:=if_pos hk
     have k1:(k.size:Int)≤64:=by omega
     have v1:(400:Int)<(v.size:Int):=by omega
     rw[hE] at HPut
     clear hE hfit
     go_wp2_with fail
     refine HPut.out.mono ?_
     rintro e W3 ⟨rfl,hb3⟩
     have hb8:W3.heap[wr.heap.size]? = some (.cells #[.string k,.string v] 33 (0,0)):=(hb3.block _ (aGe.1 HB8.out.1).1).trans HB8.out.1
     have y0:W3.cell? ⟨wr.heap.size,0,none⟩=some (.string k):=cell_of_row _ _ 0 _ _ (0,0) hb8
     have y1:W3.cell? ⟨wr.heap.size,1,none⟩=some (.string v):=cell_of_row _ _ 1 _ _ (0,0) hb8
     have HS3:=hide (HS2.out.keep hb3)
     clear hb3 hb8
     go_wp2
     go_roundw
     case rel=>exact⟨i+1,m,n,ma,mc,by omega,by go_num,rfl,by omega,HS3.out⟩
     case measure=>simp[intOf];omega
    ·have hE:longE k=8:=if_neg hk
     have k1:(64:Int)<(k.size:Int):=by omega
     rw[hE] at HPut
     clear hE hfit
     go_wp2_with fail
     refine HPut.out.mono ?_
     rintro e W3 ⟨rfl,hb3⟩
     have hb8:W3.heap[wr.heap.size]? = some (.cells #[.string k,.string v] 33 (0,0)):=(hb3.block _ (aGe.1 HB8.out.1).1).trans HB8.out.1
     have y0:W3.cell? ⟨wr.heap.size,0,none⟩=some (.string k):=cell_of_row _ _ 0 _ _ (0,0) hb8
     have HS3:=hide (HS2.out.keep hb3)
     clear hb3 hb8
     go_wp2
     go_roundw
     case rel=>exact⟨i+1,m,n,ma,mc,by omega,by go_num,rfl,by omega,HS3.out⟩
     case measure=>simp[intOf];omega
  ·obtain rfl:i=ps.length:=by omega
   obtain⟨ok,base,ht,hok,hba,hbb,hrow⟩:=HS.out.tree
   have hbel:=HS.out.bel
   have HRoot:=hide (cRoot_any ok T (.map (some M)) n wr ht HS.out.tok (HTb.out.low hbel.size (fun k hk=>hbel.block k (by have:=HTb.out.three;omega))) (fun k hk=>by have:=HTb.out.three;have:=(hok k hk).1;omega))
   have HRef:=hide (fun W (hW:KeepH ok wr W)=>rRootOf_any ma mc m n W (Prs.ofRow (base:=base) (c:=mc) (own_far hrow (fun g hg hl=>by
    obtain⟨_,cur,hc⟩:=ownsRow_type hrow g hg
    rw[hc]
    exact hW.cells hc (by decide) (by decide)))) (fun p hp=>HS.out.rel.sz p hp) HS.out.rel.nd (by omega) HS.out.tok.cb (HS.out.rel.flat HS.out.tok))
   have HBel:=hide hbel
   have HOk:=hide (fun k hk=>(hok k hk).1)
   clear ht hok hba hbb hrow hbel
   unfold ptr at HRoot
   go_wp2_with fail
   refine HRoot.out.mono ?_
   rintro e w5 ⟨rfl,hk5⟩
   have HK5:=hide hk5
   clear hk5
   go_wp2_with fail
   refine (HRef.out w5 HK5.out).mono ?_
   rintro e w6 ⟨rfl,hb6⟩
   have HB6:=hide hb6
   clear hb6
   go_wp2
   go_ret
   refine⟨rfl,?_⟩
   have h1:=HK5.out.below (B:=w1.heap.size) HBel.out.size HOk.out
   exact HB1.out.trans (((HBel.out.trans h1).trans (HB6.out.mono (Nat.le_trans HBel.out.size HK5.out.size))).mono HB1.out.size)
end Go.Proofs.YthdjmldddjljfaaGreatDoor
