/-
  OUR OWN.
-/
import Derived.Test.YthdjmldddjljfaaGreatDoorH12
import Derived.Lib.AppendZerosOnto
set_option maxHeartbeats 8000000
set_option maxRecDepth 20000
namespace Go.Proofs.YthdjmldddjljfaaGreatDoor
open Go.RowKit
attribute [local go_sem ↓] Go.wp_at_zero Go.wp_at_succ
theorem wpList_append_run2 {P:Program}{w:World}{ops:Array Oper}{rest:List Oper}{o:Oper}{a:Act}{Q:Exit→Act→World→Prop}(hgd:o.guard=none)(s x:Operand)(t u:TypeId)
  (ho:o.op=.call { callee:=.builtin .append,args:=#[s,x],argTypes:=#[t,u] }) (v sv v' : Value) (w' : World) (hs:a.eval s=v) (hx:a.eval x=sv)
  (hr:(Builtin.append_ #[t,u] o.type #[v,sv]).run P w=.ok v' w') (h:wpList P ops Q rest (a.put o.dst v') w'):wpList P ops Q (o :: rest) a w:=by
 refine wpList_plain hgd fun K hK=>?_
 unfold Oper.wp
 simp only[execOp,ho,resolve,invoke,builtin,Sem.run_bind,Sem.run_pure,Result.andThen_ok,List.map_toArray,List.map_cons,List.map_nil,hs,hx,hr]
 exact hK _ _ h
theorem growI_any (n:Nat)(w:World)(hn:n≤2000) :
  Calls Tryz.prog 150 #[.slice none 0 0,.int .i64 (n:Int)] w fun e w' => ∃v,e=.returned v∧w'.ownsRow w.heap.size 3 1 v 0 []∧Below w.heap.size w w' := by
 by_cases h0:n=0
 ·subst h0
  go_enter Tryz.func150,Tryz.ntmps150
  go_wp2
  go_ret
  exact⟨_,rfl,World.ownsRow_nil _ _ _ _,Below.refl _ _⟩
 ·obtain⟨i0,hi,hz0,hz1,hz2⟩:=info_parts infoI
  have n1:(0:Int)<(n:Int):=by omega
  have n2:(n:Int)≤2000:=by omega
  obtain⟨C,M,hM,hr⟩:∃(C:Nat) (M:Array Value),Hid (M.size=C*1∧C≤maxLen∧n≤C)∧∀ty,(Builtin.append_ #[80,3] ty #[.slice none 0 0,.int .i64 (n:Int)]).run Tryz.prog w=.ok (.slice (some ⟨w.heap.size,0,none⟩) n C) (w.drew.alloc (.cells M 3)):=by
   refine⟨grownCap w n 0 3,(([]:List Value).toArray++Builtin.zeroCells (Value.int .i64 0).cells n++Builtin.zeroCells (Value.int .i64 0).cells (grownCap w n 0 3 - n)),?_,fun ty=>?_⟩
   rotate_left
   ·have hns:Builtin.nextslicecap (0+n) 0=0+n:=by unfold Builtin.nextslicecap;rw[if_pos (by omega)]
    have h:=Lib.run_append_grow_zeros w 80 3 ty 3 i0 (.int .i64 0) .i64 .i64 Tryz.underlying80 Tryz.underlying3 hi hz0 none 0 0 [] (run_firstCells_none w.drew i0.size 0 0 0) n (by omega) (by omega) (by omega) (by omega) (by rw[hz2];omega) (by rw[hz2,hns];omega)
    rw[Nat.zero_add] at h
    rw[h]
   ·have h1:=grownCap_ge w n 0 3
    have h2:=grownCap_le_maxLen w n 0 3 (by unfold maxLen;omega)
    refine⟨?_,h2,by omega⟩
    simp only[Array.size_append,size_zeroCells,List.size_toArray,List.length_nil]
    simp[Value.cells]
    omega
  have c1:(n:Int)≤(C:Int):=by have:=hM.out;omega
  have HR:=hide hr
  clear hr
  go_enter Tryz.func150,Tryz.ntmps150
  go_wp2_with (at_builtin;go_must (refine wpList_append_run2 rfl (.tmp 20) (.tmp 21) 80 3 rfl _ _ _ _ rfl rfl (HR.out _) ?_))
  go_ret
  exact⟨_,rfl,World.ownsRow_made w.drew M C (Nat.le_refl _) hM.out.2.1 hM.out.1,((Below.refl w.heap.size w).drew).alloc (Nat.le_refl _) _⟩
theorem concat2_any (g:Nat)(a1 a2:Option Addr)(c1 c2:Nat)(p q:List Nat)(w:World)(hg1:w.cell? ⟨g,0,none⟩=some (.slice a1 p.length c1))(hg2:w.cell? ⟨g,1,none⟩=some (.slice a2 q.length c2))(hp:Nums w a1 p)(hq:Nums w a2 q)(h1:a1=none→c1=0)(h2:a2=none→c2=0)(hpc:p.length≤c1)(hqc:q.length≤c2)(hpl:p.length≤1000)(hql:q.length≤1000) :
  Calls Tryz.prog 130 #[.slice (some ⟨g,0,none⟩) 2 2] w fun e w' => NewPath w.heap.size (p++q) w e w' := by
 obtain⟨i0,hi,hz0,hz1,hz2⟩:=info_parts infoI
 have HP:Hid (Reads w (.slice a1 p.length c1) p.length (p.map numV)):=hp.reads c1 (fun e=>⟨List.length_eq_zero_iff.1 (by have:=h1 e;omega),h1 e⟩)
 have HQ:Hid (Reads w (.slice a2 q.length c2) q.length (q.map numV)):=hq.reads c2 (fun e=>⟨List.length_eq_zero_iff.1 (by have:=h2 e;omega),h2 e⟩)
 have HG:=hide (growI_any (p.length+q.length) w (by omega))
 have pI:(p.length:Int)≤1000:=by omega
 have qI' : (q.length:Int)≤1000:=by omega
 have HL1:=hide (World.block_lt_of_cell? w _ hg1)
 have HC:=hide (And.intro hg1 hg2)
 clear hp hq h1 h2 hpc hqc
 go_enter Tryz.func130,Tryz.ntmps130
 go_wp2
 go_loopw [3,11] (fun sv iv wr=>wr=w∧((iv=.int .i64 0∧sv=.int .i64 0)∨(iv=.int .i64 1∧sv=.int .i64 (p.length:Int))∨(iv=.int .i64 2∧sv=.int .i64 ((p.length:Int)+(q.length:Int))))) (fun _ iv _=>2 - (intOf iv).toNat)
 case atStart=>exact⟨rfl,.inl ⟨rfl,rfl⟩⟩
 case round =>
  obtain⟨rfl,⟨rfl,rfl⟩|⟨rfl,rfl⟩|⟨rfl,rfl⟩⟩:=hrel
  ·go_wp2
   go_roundw
   case rel=>exact⟨by first|rfl|trivial,.inr (.inl ⟨rfl,by go_num⟩)⟩
   case measure=>simp[intOf]
  ·go_wp2
   go_roundw
   case rel=>exact⟨by first|rfl|trivial,.inr (.inr ⟨rfl,by go_num⟩)⟩
   case measure=>simp[intOf]
  ·have hs:((p.length:Int)+(q.length:Int))=((p.length+q.length:Nat):Int):=by omega
   rw[hs]
   clear hs hg1 hg2
   obtain⟨W0,rfl⟩:∃W0,W0=wr:=⟨_,rfl⟩
   go_wp2_with fail
   refine HG.out.mono ?_
   rintro e w1 ⟨v1,rfl,ho1,hb1⟩
   have HO:=hide ho1
   have HB:=hide hb1
   have hg1:w1.cell? ⟨g,0,none⟩=some (.slice a1 p.length c1):=by rw[hb1.cell (p:=⟨g,0,none⟩) HL1.out];exact HC.out.1
   clear ho1 hb1
   go_wp2
   go_loopw [6,27] (fun nv iv wr=>Below W0.heap.size W0 wr∧((iv=.int .i64 0∧wr.ownsRow W0.heap.size 3 1 nv 0 [])∨(iv=.int .i64 1∧wr.ownsRow W0.heap.size 3 1 nv p.length (p.map numV))∨(iv=.int .i64 2∧wr.ownsRow W0.heap.size 3 1 nv (p.length+q.length) ((p++q).map numV)))) (fun _ iv _=>2 - (intOf iv).toNat)
   case atStart=>exact⟨HB.out,.inl ⟨rfl,HO.out⟩⟩
   case round =>
    obtain⟨hbw,⟨rfl,how⟩|⟨rfl,how⟩|⟨rfl,how⟩⟩:=hrel
    ·have HOW:=hide how
     have HBW:=hide hbw
     have hg1:wr.cell? ⟨g,0,none⟩=some (.slice a1 p.length c1):=by rw[hbw.cell (p:=⟨g,0,none⟩) HL1.out];exact HC.out.1
     clear how hbw
     go_wp2_with (at_builtin;go_must (refine wpList_append_reads rfl (.tmp 31) (.tmp 32) 80 rfl W0.heap.size 3 i0 (.int .i64 0) 1 8 Tryz.underlying80 hi hz0 hz1 hz2 rfl (by decide) _ 0 [] rfl HOW.out _ p.length (p.map numV) rfl (HP.out.keep HBW.out) (by simp) (by intro u hu;simp[numV] at hu;obtain⟨x,_,rfl⟩:=hu;rfl) (by unfold maxLen;omega) (by omega) HBW.out.size ?_);intro v3 w3 ho3 hg3;go_must (have HO3:=hide (And.intro ho3 hg3));clear ho3 hg3)
     go_roundw
     case rel=>exact⟨HBW.out.grown HO3.out.2 HBW.out.size (own_ge HOW.out (Nat.le_refl _)),.inr (.inl ⟨rfl,by have:=HO3.out.1;rw[List.nil_append,Nat.zero_add] at this;exact this⟩)⟩
     case measure=>simp[intOf]
    ·have HOW:=hide how
     have HBW:=hide hbw
     have hg2:wr.cell? ⟨g,1,none⟩=some (.slice a2 q.length c2):=by rw[hbw.cell (p:=⟨g,1,none⟩) HL1.out];exact HC.out.2
     clear how hbw
     go_wp2_with (at_builtin;go_must (refine wpList_append_reads rfl (.tmp 31) (.tmp 32) 80 rfl W0.heap.size 3 i0 (.int .i64 0) 1 8 Tryz.underlying80 hi hz0 hz1 hz2 rfl (by decide) _ p.length (p.map numV) rfl HOW.out _ q.length (q.map numV) rfl (HQ.out.keep HBW.out) (by simp) (by intro u hu;simp[numV] at hu;obtain⟨x,_,rfl⟩:=hu;rfl) (by unfold maxLen;omega) (by omega) HBW.out.size ?_);intro v3 w3 ho3 hg3;go_must (have HO3:=hide (And.intro ho3 hg3));clear ho3 hg3)
     go_roundw
     case rel=>exact⟨HBW.out.grown HO3.out.2 HBW.out.size (own_ge HOW.out (Nat.le_refl _)),.inr (.inr ⟨rfl,by rw[List.map_append];exact HO3.out.1⟩)⟩
     case measure=>simp[intOf]
    ·have HOW:=hide how
     have HBW:=hide hbw
     clear how hbw
     obtain⟨ao', cap', hv,k0,k1,k2,k3⟩:=own_path HOW.out (by simp)
     subst hv
     go_wp2
     go_ret
     exact⟨ao', cap', rfl,k0,k1,k2,k3,HBW.out⟩
end Go.Proofs.YthdjmldddjljfaaGreatDoor
