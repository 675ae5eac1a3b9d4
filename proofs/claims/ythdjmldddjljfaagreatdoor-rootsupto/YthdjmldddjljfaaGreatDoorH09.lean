/-
  OUR OWN.
-/
import Derived.RangeFuncNested
import Derived.RangeFuncBound
import Derived.RangeFuncCalls
import Derived.RangeFuncLeaves
import Derived.Shelf.Abstract
import Derived.WalkKit
import Derived.OwnWalkIn
import Derived.TacticsInMore
import Derived.LoopNIn
import Derived.LoopIn
set_option maxHeartbeats 8000000
set_option maxRecDepth 20000
namespace Go.Proofs.YthdjmldddjljfaaGreatDoor
open Go.RowKit Go.Shelf
structure Turned (B:Nat)(A A' : World):Prop where
 os:A'.os=A.os
 tape:A'.tape=A.tape
 output:A'.output=A.output
 size:A.heap.size≤A'.heap.size
 same:∀k o,A.heap[k]? = some o→(k<B∨o.isCells=true)→A'.heap[k]? = some o
theorem Turned.of_below {B:Nat}{A A' : World}(h:Below A.heap.size A A'):Turned B A A' :=
 ⟨h.os,h.tape,h.output,h.size,fun k o ho _=>by rw[h.block k (Array.getElem?_eq_some_iff.1 ho).1];exact ho⟩
theorem Turned.put {B:Nat}{A:World}{l:Nat}{o o' : Obj}(hB:B≤l)(hl:A.heap[l]? = some o)(hc:o.isCells=false):Turned B A (A.putObj l o') :=
 ⟨rfl,rfl,rfl,by simp,fun k x hx hk=>by
  have hne:k≠l:=fun e=>by
   subst e
   rcases hk with hk|hk
   ·omega
   ·rw[hl] at hx;injection hx with hx;subst hx;rw[hc] at hk;cases hk
  rw[World.putObj_heap_other hne];exact hx⟩
theorem Turned.trans {B:Nat}{A A' A'' : World}(h:Turned B A A')(h' : Turned B A' A''):Turned B A A'' :=
 ⟨h'.os.trans h.os,h'.tape.trans h.tape,h'.output.trans h.output,Nat.le_trans h.size h'.size,fun k o ho hk=>h'.same k o (h.same k o ho hk) hk⟩
def Pays (B:Nat)(W W' : World):Prop:=∀k o,B≤k→W.heap[k]? = some o→o.isCells=false→W'.heap[k]? = some o
theorem rangeX {F:Fence}{n:Nat}{P:Program}{α:Type}{g:Operand}{ps:Array Tmp}{assign body:Code}{Q:Exit→Act→World→Prop}{a:Act}{w:World}
  (hro:F.round=none) (h1:1≤n) {gf:Nat} {lb:Array Value} (hg:a.eval g=.func (.func gf) #[] lb) (hFg:F.fn gf) (eg:∀args w,(callFunc gf args).run P w=.ok (.enter gf args) w)
  {encs:α→Array Value} (hps:∀x,(encs x).size=ps.size) {Fx:α→World→Prop} {Kp:World→World→Prop} {S:List α→World→Prop} (N:Nat)
  (I:List α→World→Prop) (hI:∀pre A A', I pre A→Turned w.heap.size A A' → I pre A') (hFx:∀x A A', Fx x A→Turned w.heap.size A A' → Fx x A')
  (hKt:∀A A' A'' A''', Turned w.heap.size A A' → Kp A' A'' → Turned w.heap.size A'' A''' → Kp A A''')
  (hS:∀xs A A', S xs A→Turned w.heap.size A A' → S xs A')
  (hseq:∀(l:Nat) (J:List α→World→Prop) (W:World),Turned w.heap.size w W→(∀pre A A', J pre A→Below A.heap.size A A' → J pre A') →
    (∀pre x W1,J pre W1→Fx x W1→pre.length<N→YieldAt F (n - 1 - 1) P l (encs x) W1 fun e W' => e=.returned (.bool true)∧J (pre++[x]) W' ∧ Kp W1 W')→J [] W →
    CallsIn F (n - 1) P gf (#[.func (.yield l) #[] #[]]++lb) W fun e W' => (∃v,e=.returned v)∧∃xs,S xs W' ∧ J xs W')
  (h0:I [] w) (Ax:α→Act→World→Prop)
  (hassign:∀(l:Nat) (pre:List α) (x:α) (W:World) (K:Act→World→Prop),I pre W→Fx x W→(∀a' W', Ax x a' W' → I pre W' → Fx x W' → Pays w.heap.size W W' → Turned w.heap.size W W' → K a' W') →
    assign.wpIn (F.inRound l) (n - 1 - 1) P (Exit.then K (fun _ _ _=>False)) { tmps:=(ps.zip (encs x)).foldl (fun t (p,v)=>t.setIfInBounds p v) a.tmps,defers:=[] } W)
  (hAx:∀x a' A A', Ax x a' A→Turned w.heap.size A A' → Ax x a' A')
  (hbody:∀(l:Nat) (pre:List α) (x:α) (a' : Act) (W:World),Ax x a' W→I pre W→Fx x W→pre.length<N→body.wpIn (F.inRound l) (n - 1 - 1) P (fun e _ W' => e=.normal∧Pays w.heap.size W W' ∧ Kp W W' ∧ I (pre++[x]) W') a' W)
  (hdone:∀(D:Nat) (xs:List α) (W:World),w.heap.size≤D→S xs W→I xs W→W.heap[D]? = some (.deferred (some []))→Q .normal { a with defers:={ target:=.collected D,args:=#[] } :: a.defers } W) :
  (Code.rangeFunc g ps assign body).wpIn F n P Q a w:=by
 refine wpIn_rangeFunc ?_
 intro fn hfn
 rw[hro]
 obtain⟨rc,hrc⟩:∃rc:LoopState→Loop,rc=fun s=>{ state:=s,pending:=none,fn:=fn,tmps:=a.tmps,params:=ps,assign:=assign,body:=body,defers:=w.heap.size }:=⟨_,rfl⟩
 obtain⟨W1,hW1⟩:∃W1,(w.alloc (.deferred (some []))).alloc (.loop (rc .ready))=W1:=⟨_,rfl⟩
 have hT1:Turned w.heap.size w W1:=by rw[←hW1];exact Turned.of_below (((Below.refl _ w).alloc (Nat.le_refl _) _).alloc (by simp) _)
 have hL1:W1.heap[w.heap.size+1]? = some (.loop (rc .ready)):=by
  have h:=heap_alloc_new (w.alloc (.deferred (some []))) (.loop (rc .ready))
  rw[World.size_alloc] at h
  rw[←hW1];exact h
 have hD1:W1.heap[w.heap.size]? = some (.deferred (some [])):=by
  rw[←hW1];exact (Below.heap_alloc _ _ _ (by simp)).trans (heap_alloc_new w _)
 refine⟨w.heap.size+1,[{ target:=.collected w.heap.size,args:=#[] }],W1,{ target:=.fn (.func gf) lb,args:=#[.func (.yield (w.heap.size+1)) #[] #[]] },W1,gf,#[.func (.yield (w.heap.size+1)) #[] #[]]++lb,W1,?_,?_,?_,?_,fun _=>h1,?_⟩
 ·rw[←hW1,hrc];exact run_enterLoop_outer _ _ _ _ _
 ·simp only[resolve,hg]
  simp[go_sem]
 ·intro f' hf'
  simp[Target.leads] at hf'
  subst hf'
  exact hFg
 ·simp[invoke,go_sem,eg]
 ·have hro2:∀W,W.heap[w.heap.size+1]? = some (.loop (rc .ready))→Turned w.heap.size W (W.putObj (w.heap.size+1) (.loop (rc .busy))):=fun W h=>Turned.put (by omega) h rfl
  refine (hseq (w.heap.size+1) (fun pre W=>I pre W∧W.heap[w.heap.size+1]? = some (.loop (rc .ready))∧W.heap[w.heap.size]? = some (.deferred (some []))) W1 hT1 ?_ ?_ ⟨hI _ _ _ h0 hT1,hL1,hD1⟩).mono ?_
  ·rintro pre A A' ⟨k1,k2,k3⟩ hb
   exact⟨hI _ _ _ k1 (Turned.of_below hb),by rw[hb.block _ (Array.getElem?_eq_some_iff.1 k2).1];exact k2,by rw[hb.block _ (Array.getElem?_eq_some_iff.1 k3).1];exact k3⟩
  ·rintro pre x W ⟨k1,k2,k3⟩ kx kn
   have hlt:=(Array.getElem?_eq_some_iff.1 k2).1
   have hy:=run_yield (P:=P) (args:=encs x) k2 (by rw[hrc];exact hps x)
   rw[hrc] at hy
   refine⟨fn,_,assign,body,hy,roundIn_of_wpIn hfn (hassign _ pre x W _ k1 kx ?_)⟩
   intro a' W' hax hi' hx' hpay htn
   have k2' := hpay _ _ (by omega) k2 rfl
   have k3' := hpay _ _ (Nat.le_refl _) k3 rfl
   have hlt' := (Array.getElem?_eq_some_iff.1 k2').1
   have hbr:(Instr.beginRound (w.heap.size+1)).run P W' = .ok () (W'.putObj (w.heap.size+1) (.loop (rc .busy))):=by
    have:=run_beginRound (P:=P) k2' (by rw[hrc])
    rw[hrc] at this ⊢
    exact this
   refine⟨_,hbr,?_⟩
   have ht2:=hro2 W' k2'
   have kb:(W'.putObj (w.heap.size+1) (.loop (rc .busy))).heap[w.heap.size+1]? = some (.loop (rc .busy)):=World.putObj_heap_same hlt'
   have kd:(W'.putObj (w.heap.size+1) (.loop (rc .busy))).heap[w.heap.size]? = some (.deferred (some [])):=(World.putObj_heap_other (by omega)).trans k3'
   refine wpIn_mono (hbody _ pre x a' _ (hAx _ _ _ _ hax ht2) (hI _ _ _ hi' ht2) (hFx _ _ _ hx' ht2) kn) ?_
   rintro e a3 W3 ⟨rfl,hp3,hk3,hi3⟩
   have kb3:=hp3 _ _ (by omega) kb rfl
   have kd3:=hp3 _ _ (Nat.le_refl _) kd rfl
   have her:=run_endRound (P:=P) none kb3
   have ht3:Turned w.heap.size W3 (W3.putObj (w.heap.size+1) (.loop (rc .ready))):=Turned.put (by omega) kb3 rfl
   have hre:({ rc .busy with state:=if (none:Option Code).isNone then LoopState.ready else .done,pending:=none }:Loop)=rc .ready:=by rw[hrc];rfl
   rw[hre] at her
   refine⟨_,_,her,rfl,⟨hI _ _ _ hi3 ht3,World.putObj_heap_same (Array.getElem?_eq_some_iff.1 kb3).1,(World.putObj_heap_other (by omega)).trans kd3⟩,?_⟩
   exact hKt _ _ _ _ (htn.trans ht2) hk3 ht3
  ·rintro e W2 ⟨⟨v,rfl⟩,xs,hs,k1,k2,k3⟩
   have hel:=run_endLoop (P:=P) k2 (by rw[hrc];simp)
   have ht:∀o', Turned w.heap.size W2 (W2.putObj (w.heap.size+1) o'):=fun o' => Turned.put (by omega) k2 rfl
   have hpe:(rc .ready).pending=none:=by rw[hrc]
   rw[hpe] at hel
   exact⟨none,_,hel,hdone _ xs _ (Nat.le_refl _) (hS _ _ _ hs (ht _)) (hI _ _ _ k1 (ht _)) ((World.putObj_heap_other (by omega)).trans k3)⟩
end Go.Proofs.YthdjmldddjljfaaGreatDoor
