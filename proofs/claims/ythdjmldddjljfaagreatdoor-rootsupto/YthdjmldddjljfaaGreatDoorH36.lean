/-
  OUR OWN.
-/
import Derived.Test.YthdjmldddjljfaaGreatDoorH32
import Derived.Test.YthdjmldddjljfaaGreatDoorH22
set_option maxHeartbeats 8000000
set_option maxRecDepth 20000
namespace Go.Proofs.YthdjmldddjljfaaGreatDoor
open Go.RowKit
attribute [local go_sem ↓] Go.wp_at_zero Go.wp_at_succ
theorem setFour {w:World}{R:Nat}{T:TypeId}{a b c d:Value}(h:w.heap[R]? = some (.cells #[a,b,c,d] T (0,0)))(x y z u:Value):((((w.setCell ⟨R,0,none⟩ x).setCell ⟨R,1,none⟩ y).setCell ⟨R,2,none⟩ z).setCell ⟨R,3,none⟩ u).heap[R]? = some (.cells #[x,y,z,u] T (0,0)):=by
 have h1:=heap_setCell_same w R 0 _ T x h
 have h2:=heap_setCell_same _ R 1 _ T y h1
 have h3:=heap_setCell_same _ R 2 _ T z h2
 have h4:=heap_setCell_same _ R 3 _ T u h3
 exact h4
theorem belowFour {B:Nat}{a w:World}(h:Below B a w){R:Nat}(hR:B≤R)(x y z u:Value):Below B a ((((w.setCell ⟨R,0,none⟩ x).setCell ⟨R,1,none⟩ y).setCell ⟨R,2,none⟩ z).setCell ⟨R,3,none⟩ u):=(((h.setCell (p:=⟨R,0,none⟩) hR x).setCell (p:=⟨R,1,none⟩) hR y).setCell (p:=⟨R,2,none⟩) hR z).setCell (p:=⟨R,3,none⟩) hR u
def PBox (w W:World):Prop:=Below w.heap.size w W∧W.heap[w.heap.size]? = some (.cells #[.slice none 0 0,.string ⟨#[]⟩,.nilIface,.string ⟨#[]⟩] 191 (0,0))
theorem PBox.start (w:World):PBox w (w.alloc (.cells #[.slice none 0 0,.string ⟨#[]⟩,.nilIface,.string ⟨#[]⟩] 191)):=⟨below_alloc _ _,heap_alloc_new w _⟩
theorem PBox.keep {w W W' : World}(h:PBox w W)(hb:Below W.heap.size W W'):PBox w W' := ⟨h.1.trans (hb.mono h.1.size),(hb.block _ (aGe.1 h.2).1).trans h.2⟩
theorem PBox.drew {w W:World}(h:PBox w W):PBox w W.drew:=h.keep (Below.refl _ _).drew
theorem PBox.cells {w W:World}(h:PBox w W):W.cell? ⟨w.heap.size,0,none⟩=some (.slice none 0 0)∧W.cell? ⟨w.heap.size,1,none⟩=some (.string ⟨#[]⟩)∧W.cell? ⟨w.heap.size,2,none⟩=some .nilIface∧W.cell? ⟨w.heap.size,3,none⟩=some (.string ⟨#[]⟩)∧W.frozen? ⟨w.heap.size,0,none⟩=false∧W.frozen? ⟨w.heap.size,1,none⟩=false∧W.frozen? ⟨w.heap.size,2,none⟩=false∧W.frozen? ⟨w.heap.size,3,none⟩=false :=
 ⟨cell_of_row _ _ 0 _ _ (0,0) h.2,cell_of_row _ _ 1 _ _ (0,0) h.2,cell_of_row _ _ 2 _ _ (0,0) h.2,cell_of_row _ _ 3 _ _ (0,0) h.2,frozen_of_row _ _ 0 _ _ h.2,frozen_of_row _ _ 1 _ _ h.2,frozen_of_row _ _ 2 _ _ h.2,frozen_of_row _ _ 3 _ _ h.2⟩
theorem leafToward_any (b:Nat)(ao bo:Option Addr)(ca cb:Nat)(p q:List Nat)(x:ByteArray)(w:World)(hb:w.heap[b]? = some (.cells #[.slice ao p.length ca,.string x] 199 (0,0)))(ha:Nums w ao p)(hq:Nums w bo q)(hp:p.length≤1000) :
  Calls Tryz.prog 209 #[ptr b,.slice bo q.length cb] w fun e w' => e=.returned (.tuple #[.agg #[.slice ao p.length ca,.string x,.nilIface,.string e0],.bool (decide (p=q))])∧Below w.heap.size w w' := by
 have hbl:=(aGe.1 hb).1
 have hcell:∀W,Below w.heap.size w W→W.cell? ⟨b,0,none⟩=some (.slice ao p.length ca)∧W.cell? ⟨b,1,none⟩=some (.string x):=fun W hW =>
  ⟨(hW.cell (p:=⟨b,0,none⟩) hbl).trans (cell_of_row w b 0 _ _ (0,0) hb),(hW.cell (p:=⟨b,1,none⟩) hbl).trans (cell_of_row w b 1 _ _ (0,0) hb)⟩
 have HC:=hide hcell
 have HE:Hid (∀W,Below w.heap.size w W→Calls Tryz.prog 213 #[.slice ao p.length ca,.slice bo q.length cb] W fun e w' => e=.returned (.bool (decide (p=q)))∧Below W.heap.size W w') :=
  fun W hW=>equalI_any ao bo ca cb p q W (ha.keep hW (Nat.le_refl _)) (hq.keep hW (Nat.le_refl _)) hp
 have HB0:=hide (PBox.start w)
 obtain⟨c0,c1⟩:=hcell _ (PBox.start w).1
 clear hcell hb ha hq
 unfold ptr
 go_enter Tryz.func209,Tryz.ntmps209
 go_wp2_with fail
 go_region_with ((go_at_call 213;refine (HE.out _ HB0.out.drew.1).mono ?_;rintro e w1 ⟨rfl,hb1⟩;have HB1:=hide (HB0.out.drew.keep hb1);obtain⟨d0,d1⟩:=HC.out w1 HB1.out.1;obtain⟨z0,z1,z2,z3,f0,f1,f2,f3⟩:=HB1.out.cells;clear hb1))
 all_goals go_wp2
 all_goals
  have hfin:=setFour HB1.out.2 (.slice ao p.length ca) (.string x) .nilIface (.string ⟨#[]⟩)
  have r0:=cell_of_row _ _ 0 _ _ (0,0) hfin
  have r1:=cell_of_row _ _ 1 _ _ (0,0) hfin
  have r2:=cell_of_row _ _ 2 _ _ (0,0) hfin
  have r3:=cell_of_row _ _ 3 _ _ (0,0) hfin
  refine bodyPost_ret (v:=.tuple #[.agg #[.slice ao p.length ca,.string x,.nilIface,.string e0],.bool (decide (p=q))]) (by simp[results,Tryz.results209,go_sem,r0,r1,r2,r3,e0]) rfl ⟨rfl,?_⟩
  exact belowFour HB1.out.1 (Nat.le_refl _) _ _ _ _
theorem extToward_any (b:Nat)(ao bo:Option Addr)(ca cb:Nat)(p q:List Nat)(u:Value)(g:ByteArray)(w:World)(hu:isNd u)(hb:w.heap[b]? = some (.cells #[.slice ao p.length ca,u,.string g] 282 (0,0)))(ha:Nums w ao p)(hq:Nums w bo q)(hp:p.length≤1000) :
  Calls Tryz.prog 233 #[ptr b,.slice bo q.length cb] w fun e w' => e=.returned (.tuple #[.agg #[.slice ao p.length ca,.string e0,u,.string g],.bool (decide (p <+: q))])∧Below w.heap.size w w' := by
 have hbl:=(aGe.1 hb).1
 have hcell:∀W,Below w.heap.size w W→W.cell? ⟨b,0,none⟩=some (.slice ao p.length ca)∧W.cell? ⟨b,1,none⟩=some u∧W.cell? ⟨b,2,none⟩=some (.string g):=fun W hW =>
  ⟨(hW.cell (p:=⟨b,0,none⟩) hbl).trans (cell_of_row w b 0 _ _ (0,0) hb),(hW.cell (p:=⟨b,1,none⟩) hbl).trans (cell_of_row w b 1 _ _ (0,0) hb),(hW.cell (p:=⟨b,2,none⟩) hbl).trans (cell_of_row w b 2 _ _ (0,0) hb)⟩
 have HC:=hide hcell
 have hne1:¬b=w.heap.size:=by omega
 have hne2:¬w.heap.size=b:=by omega
 have HE:Hid (∀W,Below w.heap.size w W→Calls Tryz.prog 214 #[.slice ao p.length ca,.slice bo q.length cb] W fun e w' => e=.returned (.int .i64 (shared p q:Int))∧Below W.heap.size W w') :=
  fun W hW=>sharedI_any ao bo ca cb p q W (ha.keep hW (Nat.le_refl _)) (hq.keep hW (Nat.le_refl _)) hp
 have HS:Hid (((shared p q:Int) == (p.length:Int))=decide (p <+: q)):=by
  show _=_
  rw[Bool.eq_iff_iff,beq_iff_eq,decide_eq_true_eq,←shared_all]
  omega
 have HB0:=hide (PBox.start w)
 obtain⟨c0,c1,c2⟩:=hcell _ (PBox.start w).1
 clear hcell hb ha hq
 rcases hu with rfl|⟨t,ub,rfl⟩
 ·unfold ptr
  go_enter Tryz.func233,Tryz.ntmps233
  go_wp2_with fail
  go_region_held3 (fun W=>W.cell? ⟨b,0,none⟩=some (.slice ao p.length ca)∧W.cell? ⟨b,1,none⟩=some .nilIface∧W.cell? ⟨b,2,none⟩=some (.string g)) (first|go_keep|(simp[*])) ((go_at_call 214;refine (HE.out _ HB0.out.drew.1).mono ?_;rintro e w1 ⟨rfl,hb1⟩;have HB1:=hide (HB0.out.drew.keep hb1);obtain⟨d0,d1,d2⟩:=HC.out w1 HB1.out.1;obtain⟨z0,z1,z2,z3,f0,f1,f2,f3⟩:=HB1.out.cells;clear hb1))
  all_goals go_wp2
  all_goals
   have hfin:=setFour HB1.out.2 (.slice ao p.length ca) (.string ⟨#[]⟩) .nilIface (.string g)
   have r0:=cell_of_row _ _ 0 _ _ (0,0) hfin
   have r1:=cell_of_row _ _ 1 _ _ (0,0) hfin
   have r2:=cell_of_row _ _ 2 _ _ (0,0) hfin
   have r3:=cell_of_row _ _ 3 _ _ (0,0) hfin
   refine bodyPost_ret (v:=.tuple #[.agg #[.slice ao p.length ca,.string e0,.nilIface,.string g],.bool ((shared p q:Int) == (p.length:Int))]) (by simp[results,Tryz.results233,go_sem,r0,r1,r2,r3,e0]) rfl ⟨by rw[HS.out],?_⟩
   exact belowFour HB1.out.1 (Nat.le_refl _) _ _ _ _
 ·unfold ptr at *
  go_enter Tryz.func233,Tryz.ntmps233
  go_wp2_with fail
  go_region_held3 (fun W=>W.cell? ⟨b,0,none⟩=some (.slice ao p.length ca)∧W.cell? ⟨b,1,none⟩=some (.iface t (.pointer (some ⟨ub,0,none⟩)))∧W.cell? ⟨b,2,none⟩=some (.string g)) (first|go_keep|(simp[*])) ((go_at_call 214;refine (HE.out _ HB0.out.drew.1).mono ?_;rintro e w1 ⟨rfl,hb1⟩;have HB1:=hide (HB0.out.drew.keep hb1);obtain⟨d0,d1,d2⟩:=HC.out w1 HB1.out.1;obtain⟨z0,z1,z2,z3,f0,f1,f2,f3⟩:=HB1.out.cells;clear hb1))
  all_goals go_wp2
  all_goals
   have hfin:=setFour HB1.out.2 (.slice ao p.length ca) (.string ⟨#[]⟩) (.iface t (.pointer (some ⟨ub,0,none⟩))) (.string g)
   have r0:=cell_of_row _ _ 0 _ _ (0,0) hfin
   have r1:=cell_of_row _ _ 1 _ _ (0,0) hfin
   have r2:=cell_of_row _ _ 2 _ _ (0,0) hfin
   have r3:=cell_of_row _ _ 3 _ _ (0,0) hfin
   refine bodyPost_ret (v:=.tuple #[.agg #[.slice ao p.length ca,.string e0,.iface t (.pointer (some ⟨ub,0,none⟩)),.string g],.bool ((shared p q:Int) == (p.length:Int))]) (by simp[results,Tryz.results233,go_sem,r0,r1,r2,r3,e0]) rfl ⟨by rw[HS.out],?_⟩
   exact belowFour HB1.out.1 (Nat.le_refl _) _ _ _ _
def emptyB (u:Value)(h:ByteArray):Bool:=match u with
 | .nilIface=>decide (h.size=0)
 | _=>false
theorem isEmptyX_any (b off:Nat)(u:Value)(h:ByteArray)(w:World)(hu:isNd u)(h0:w.cell? ⟨b,off,none⟩=some u)(h1:w.cell? ⟨b,off+1,none⟩=some (.string h)) :
  Calls Tryz.prog 80 #[.pointer (some ⟨b,off,none⟩)] w fun e w' => e=.returned (.bool (emptyB u h))∧w' = w:=by
 rcases hu with rfl|⟨t,ub,rfl⟩
 ·by_cases hh:h.size=0
  ·have e:=e0_iff.1 hh
   subst e
   refine (isEmpty_yes b off w h0 h1).mono ?_
   rintro e w' ⟨rfl,rfl⟩
   exact⟨rfl,rfl⟩
  ·have hn:=empty_of_ne (s:=h) (fun e=>hh (by rw[e];rfl))
   have HE:Hid (emptyB .nilIface h=false):=by show _=_;simp[emptyB,hh]
   go_enter Tryz.func80,Tryz.ntmps80
   go_wp2
   go_ret
   exact⟨by rw[HE.out];rfl,rfl⟩
 ·exact isEmpty_no b off t ub w h0
theorem brToward_nil (b:Nat)(bo:Option Addr)(cb:Nat)(us:Nat→Value)(hs:Nat→ByteArray)(x:ByteArray)(w:World)(hb:w.heap[b]? = some (.cells (brCells us hs x) 285 (0,0))) :
  Calls Tryz.prog 240 #[ptr b,.slice bo 0 cb] w fun e w' => e=.returned (.tuple #[.agg #[.slice none 0 0,.string x,.nilIface,.string e0],.bool (decide (x.size≠0))])∧Below w.heap.size w w' := by
 have hbl:=(aGe.1 hb).1
 have c0:=fun o=>((below_alloc w o).cell (p:=⟨b,32,none⟩) hbl).trans (br_val hb)
 have HE:Hid ((!x.toList.isEmpty)=decide (x.size≠0)):=by
  show _=_
  by_cases h:x.size=0
  ·obtain rfl:=empty_of_size h
   simp[ByteArray.toList_eq,ByteArray.size]
  ·rw[empty_of_ne (fun e=>h (by rw[e];rfl))];simp[h]
 have hne1:¬b=w.heap.size:=by omega
 have hne2:¬w.heap.size=b:=by omega
 have HB0:=hide (PBox.start w)
 obtain⟨z0,z1,z2,z3,f0,f1,f2,f3⟩:=HB0.out.cells
 clear hb
 unfold ptr
 go_enter Tryz.func240,Tryz.ntmps240
 go_wp2
 go_region_held3 (fun W=>W.cell? ⟨b,32,none⟩=some (.string x)) (first|go_keep|(simp[*])) ((fail))
 all_goals go_wp2
 all_goals
  refine bodyPost_ret (v:=.tuple #[.agg #[.slice none 0 0,.string x,.nilIface,.string e0],.bool (!x.toList.isEmpty)]) (by simp[results,Tryz.results240,go_sem,e0]) rfl ⟨by rw[HE.out],?_⟩
  first|exact (below_alloc _ _).drew|exact below_alloc _ _
theorem brToward_cons (b i:Nat)(gp op cb n:Nat)(us:Nat→Value)(hs:Nat→ByteArray)(x:ByteArray)(w:World)(hi:i<16)(hu:isNd (us i))(hb:w.heap[b]? = some (.cells (brCells us hs x) 285 (0,0)))(hp:w.cell? ⟨gp,op,none⟩=some (.int .i64 (i:Int)))(hc:n+1≤cb) :
  Calls Tryz.prog 240 #[ptr b,.slice (some ⟨gp,op,none⟩) (n+1) cb] w fun e w' => e=.returned (.tuple #[.agg #[.slice (some ⟨gp,op,none⟩) 1 cb,.string e0,us i,.string (hs i)],.bool (!emptyB (us i) (hs i))])∧Below w.heap.size w w' := by
 have hbl:=(aGe.1 hb).1
 have hpl:gp<w.heap.size:=World.block_lt_of_cell? w _ hp
 have hr:=br_ref hb i hi
 generalize us i=u at *
 generalize hs i=h at *
 have HB0:=hide (PBox.start w)
 have c0:=fun o=>((below_alloc w o).cell (p:=⟨b,i*2,none⟩) hbl).trans hr.1
 have c1:=fun o=>((below_alloc w o).cell (p:=⟨b,i*2+1,none⟩) hbl).trans hr.2
 have c2:=fun o=>((below_alloc w o).cell (p:=⟨gp,op,none⟩) hpl).trans hp
 have i0:(0:Int)≤(i:Int):=by omega
 have i1:(i:Int)<16:=by omega
 have p1:(n:Int)+1≤(cb:Int):=by omega
 have p2:(((n:Int)+1) == 0)=false:=by simp;omega
 have p3:(1:Int)≤(n:Int)+1:=by omega
 have p4:(0:Int)<(n:Int)+1:=by omega
 have p5:(1:Int)≤(cb:Int):=by omega
 have q1:¬b=w.heap.size+1:=by omega
 have q2:¬gp=w.heap.size+1:=by omega
 have q3:¬b=w.heap.size:=by omega
 have q4:¬gp=w.heap.size:=by omega
 clear hb hp hr
 unfold ptr at *
 have HU:=hide hu
 rcases hu with rfl|⟨t,ub,rfl⟩
 ·go_enter Tryz.func240,Tryz.ntmps240
  go_wp2
  go_region_held3 (fun W=>W.cell? ⟨b,i*2,none⟩=some .nilIface∧W.cell? ⟨b,i*2+1,none⟩=some (.string h)∧W.cell? ⟨gp,op,none⟩=some (.int .i64 (i:Int))) (first|go_keep|(simp[*])) ((fail))
  all_goals
   have hB1:PBox w (((w.alloc (.cells #[.slice none 0 0,.string ⟨#[]⟩,.nilIface,.string ⟨#[]⟩] 191)).alloc (.cells #[.nilIface,.string h] 65)).drew):=(HB0.out.keep (below_alloc _ _)).drew
   have hT:(((w.alloc (.cells #[.slice none 0 0,.string ⟨#[]⟩,.nilIface,.string ⟨#[]⟩] 191)).alloc (.cells #[.nilIface,.string h] 65)).drew).heap[w.heap.size+1]? = some (.cells #[.nilIface,.string h] 65 (0,0)):=by
    have h2:=heap_alloc_new (w.alloc (.cells #[.slice none 0 0,.string ⟨#[]⟩,.nilIface,.string ⟨#[]⟩] 191)) (.cells #[.nilIface,.string h] 65)
    rw[World.size_alloc] at h2
    exact h2
   generalize World.drew _=W1 at *
   have t0:W1.cell? ⟨w.heap.size+1,0,none⟩=some .nilIface:=cell_of_row _ _ 0 _ _ (0,0) hT
   have t1:W1.cell? ⟨w.heap.size+1,1,none⟩=some (.string h):=cell_of_row _ _ 1 _ _ (0,0) hT
   obtain⟨z0,z1,z2,z3,f0,f1,f2,f3⟩:=hB1.cells
   have HX:=hide (And.intro hB1 hT)
   have HEm:Hid (∀W,W.cell? ⟨w.heap.size+1,0,none⟩=some .nilIface→W.cell? ⟨w.heap.size+1,1,none⟩=some (.string h)→Calls Tryz.prog 80 #[.pointer (some ⟨w.heap.size+1,0,none⟩)] W fun e w' => e=.returned (.bool (emptyB .nilIface h))∧w' = W):=fun W k0 k1=>isEmptyX_any (w.heap.size+1) 0 _ h W HU.out k0 k1
   clear hB1 hT HB0 c0 c1 c2
   obtain⟨eb,heb⟩:∃eb,Hid (emptyB .nilIface h=eb):=⟨_,Eq.refl _⟩
   rw[heb.out] at HEm
   go_wp2
  all_goals go_region_held3 (fun W=>W.cell? ⟨w.heap.size+1,0,none⟩=some .nilIface∧W.cell? ⟨w.heap.size+1,1,none⟩=some (.string h)) (first|go_keep|(simp[*])) ((go_at_call 80;refine (HEm.out _ (by first|assumption|exact t0) (by first|assumption|exact t1)).mono ?_;rintro e w5 ⟨rfl,rfl⟩))
  all_goals go_wp2
  all_goals
   have hfin:=setFour HX.out.1.2 (.slice (some ⟨gp,op,none⟩) 1 cb) (.string ⟨#[]⟩) .nilIface (.string h)
   have r0:=cell_of_row _ _ 0 _ _ (0,0) hfin
   have r1:=cell_of_row _ _ 1 _ _ (0,0) hfin
   have r2:=cell_of_row _ _ 2 _ _ (0,0) hfin
   have r3:=cell_of_row _ _ 3 _ _ (0,0) hfin
   refine bodyPost_ret (v:=.tuple #[.agg #[.slice (some ⟨gp,op,none⟩) 1 cb,.string e0,.nilIface,.string h],.bool (!eb)]) (by simp[results,Tryz.results240,go_sem,r0,r1,r2,r3,e0]) rfl ⟨by rw[heb.out],?_⟩
   first|exact (belowFour HX.out.1.1 (Nat.le_refl _) _ _ _ _).drew|exact belowFour HX.out.1.1 (Nat.le_refl _) _ _ _ _
 ·unfold ptr at *
  go_enter Tryz.func240,Tryz.ntmps240
  go_wp2
  go_region_held3 (fun W=>W.cell? ⟨b,i*2,none⟩=some (.iface t (.pointer (some ⟨ub,0,none⟩)))∧W.cell? ⟨b,i*2+1,none⟩=some (.string h)∧W.cell? ⟨gp,op,none⟩=some (.int .i64 (i:Int))) (first|go_keep|(simp[*])) ((fail))
  all_goals
   have hB1:PBox w (((w.alloc (.cells #[.slice none 0 0,.string ⟨#[]⟩,.nilIface,.string ⟨#[]⟩] 191)).alloc (.cells #[.iface t (.pointer (some ⟨ub,0,none⟩)),.string h] 65)).drew):=(HB0.out.keep (below_alloc _ _)).drew
   have hT:(((w.alloc (.cells #[.slice none 0 0,.string ⟨#[]⟩,.nilIface,.string ⟨#[]⟩] 191)).alloc (.cells #[.iface t (.pointer (some ⟨ub,0,none⟩)),.string h] 65)).drew).heap[w.heap.size+1]? = some (.cells #[.iface t (.pointer (some ⟨ub,0,none⟩)),.string h] 65 (0,0)):=by
    have h2:=heap_alloc_new (w.alloc (.cells #[.slice none 0 0,.string ⟨#[]⟩,.nilIface,.string ⟨#[]⟩] 191)) (.cells #[.iface t (.pointer (some ⟨ub,0,none⟩)),.string h] 65)
    rw[World.size_alloc] at h2
    exact h2
   generalize World.drew _=W1 at *
   have t0:W1.cell? ⟨w.heap.size+1,0,none⟩=some (.iface t (.pointer (some ⟨ub,0,none⟩))):=cell_of_row _ _ 0 _ _ (0,0) hT
   have t1:W1.cell? ⟨w.heap.size+1,1,none⟩=some (.string h):=cell_of_row _ _ 1 _ _ (0,0) hT
   obtain⟨z0,z1,z2,z3,f0,f1,f2,f3⟩:=hB1.cells
   have HX:=hide (And.intro hB1 hT)
   have HEm:Hid (∀W,W.cell? ⟨w.heap.size+1,0,none⟩=some (.iface t (.pointer (some ⟨ub,0,none⟩)))→W.cell? ⟨w.heap.size+1,1,none⟩=some (.string h)→Calls Tryz.prog 80 #[.pointer (some ⟨w.heap.size+1,0,none⟩)] W fun e w' => e=.returned (.bool (emptyB (.iface t (.pointer (some ⟨ub,0,none⟩))) h))∧w' = W):=fun W k0 k1=>isEmptyX_any (w.heap.size+1) 0 _ h W HU.out k0 k1
   clear hB1 hT HB0 c0 c1 c2
   obtain⟨eb,heb⟩:∃eb,Hid (emptyB (.iface t (.pointer (some ⟨ub,0,none⟩))) h=eb):=⟨_,Eq.refl _⟩
   rw[heb.out] at HEm
   go_wp2
  all_goals go_region_held3 (fun W=>W.cell? ⟨w.heap.size+1,0,none⟩=some (.iface t (.pointer (some ⟨ub,0,none⟩)))∧W.cell? ⟨w.heap.size+1,1,none⟩=some (.string h)) (first|go_keep|(simp[*])) ((go_at_call 80;refine (HEm.out _ (by first|assumption|exact t0) (by first|assumption|exact t1)).mono ?_;rintro e w5 ⟨rfl,rfl⟩))
  all_goals go_wp2
  all_goals
   have hfin:=setFour HX.out.1.2 (.slice (some ⟨gp,op,none⟩) 1 cb) (.string ⟨#[]⟩) (.iface t (.pointer (some ⟨ub,0,none⟩))) (.string h)
   have r0:=cell_of_row _ _ 0 _ _ (0,0) hfin
   have r1:=cell_of_row _ _ 1 _ _ (0,0) hfin
   have r2:=cell_of_row _ _ 2 _ _ (0,0) hfin
   have r3:=cell_of_row _ _ 3 _ _ (0,0) hfin
   refine bodyPost_ret (v:=.tuple #[.agg #[.slice (some ⟨gp,op,none⟩) 1 cb,.string e0,.iface t (.pointer (some ⟨ub,0,none⟩)),.string h],.bool (!eb)]) (by simp[results,Tryz.results240,go_sem,r0,r1,r2,r3,e0]) rfl ⟨by rw[heb.out],?_⟩
   first|exact (belowFour HX.out.1.1 (Nat.le_refl _) _ _ _ _).drew|exact belowFour HX.out.1.1 (Nat.le_refl _) _ _ _ _
end Go.Proofs.YthdjmldddjljfaaGreatDoor
