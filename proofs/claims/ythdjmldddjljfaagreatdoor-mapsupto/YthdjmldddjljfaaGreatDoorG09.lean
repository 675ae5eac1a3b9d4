/-
  OUR OWN.
-/
import Derived.RangeFuncNested
import Derived.RangeFuncBound
import Derived.RangeFuncCalls
import Derived.RangeFuncLeaves
import Derived.Shelf.Abstract
import Derived.WalkKit
import Derived.OwnWalkIn
import Derived.TacticsInMore
import Derived.LoopNIn
import Derived.LoopIn
set_option maxHeartbeats 8000000
set_option maxRecDepth 20000
namespace Go.Proofs.YthdjmldddjljfaaGreatDoor
open Go.RowKit Go.Shelf
structure Turned (B:Nat)(A A' : World):Prop where
 os:A'.os=A.os
 tape:A'.tape=A.tape
 output:A'.output=A.output
 size:A.heap.size≤A'.heap.size
 same:∀k o,A.heap[k]? = some o→(k<B∨o.isCells=true)→A'.heap[k]? = some o
theorem Turned.of_below {B:Nat}{A A' : World}(h:Below A.heap.size A A'):Turned B A A' :=
 ⟨h.os,h.tape,h.output,h.size,fun k o ho _=>by rw[h.block k (Array.getElem?_eq_some_iff.1 ho).1];exact ho⟩
theorem Turned.put {B:Nat}{A:World}{l:Nat}{o o' : Obj}(hB:B≤l)(hl:A.heap[l]? = some o)(hc:o.isCells=false):Turned B A (A.putObj l o') :=
 ⟨rfl,rfl,rfl,by simp,fun k x hx hk=>by
  have hne:k≠l:=fun e=>by
   subst e
   rcases hk with hk|hk
   ·omega
   ·rw[hl] at hx;injection hx with hx;subst hx;rw[hc] at hk;cases hk
  rw[World.putObj_heap_other hne];exact hx⟩
theorem Turned.trans {B:Nat}{A A' A'' : World}(h:Turned B A A')(h' : Turned B A' A''):Turned B A A'' :=
 ⟨h'.os.trans h.os,h'.tape.trans h.tape,h'.output.trans h.output,Nat.le_trans h.size h'.size,fun k o ho hk=>h'.same k o (h.same k o ho hk) hk⟩
def Pays (B:Nat)(W W' : World):Prop:=∀k o,B≤k→W.heap[k]? = some o→o.isCells=false→W'.heap[k]? = some o
theorem rangeX {F:Fence}{n:Nat}{P:Program}{α:Type}{g:Operand}{ps:Array Tmp}{assign body:Code}{Q:Exit→Act→World→Prop}{a:Act}{w:World}
  (hro:F.round=none) (h1:1≤n) {gf:Nat} {lb:Array Value} (hg:a.eval g=.func (.func gf) #[] lb) (hFg:F.fn gf) (eg:∀args w,(callFunc gf args).run P w=.ok (.enter gf args) w)
  {encs:α→Array Value} (hps:∀x,(encs x).size=ps.size) {Fx:α→World→Prop} {Kp:World→World→Prop} {S:List α→World→Prop} (N:Nat)
  (I:List α→World→Prop) (hI:∀pre A A', I pre A→Turned w.heap.size A A' → I pre A') (hFx:∀x A A', Fx x A→Turned w.heap.size A A' → Fx x A')
  (hKt:∀A A' A'' A''', Turned w.heap.size A A' → Kp A' A'' → Turned w.heap.size A'' A''' → Kp A A''')
  (hS:∀xs A A', S xs A→Turned w.heap.size A A' → S xs A')
  (hseq:∀(l:Nat) (J:List α→World→Prop) (W:World),Turned w.heap.size w W→(∀pre A A', J pre A→Below A.heap.size A A' → J pre A') →
    (∀pre x W1,J pre W1→Fx x W1→pre.length<N→YieldAt F (n - 1 - 1) P l (encs x) W1 fun e W' => e=.returned (.bool true)∧J (pre++[x]) W' ∧ Kp W1 W')→J [] W →
    CallsIn F (n - 1) P gf (#[.func (.yield l) #[] #[]]++lb) W fun e W' => (∃v,e=.returned v)∧∃xs,S xs W' ∧ J xs W')
  (h0:I [] w) (Ax:α→Act→World→Prop)
  (hassign:∀(l:Nat) (pre:List α) (x:α) (W:World) (K:Act→World→Prop),I pre W→Fx x W→(∀a' W', Ax x a' W' → I pre W' → Fx x W' → Pays w.heap.size W W' → Turned w.heap.size W W' → K a' W') →
    assign.wpIn (F.inRound l) (n - 1 - 1) P (Exit.then K (fun _ _ _=>False)) { tmps:=(ps.zip (encs x)).foldl (fun t (p,v)=>t.setIfInBounds p v) a.tmps,defers:=[] } W)
  (hAx:∀x a' A A', Ax x a' A→Turned w.heap.size A A' → Ax x a' A')
  (hbody:∀(l:Nat) (pre:List α) (x:α) (a' : Act) (W:World),Ax x a' W→I pre W→Fx x W→pre.length<N→body.wpIn (F.inRound l) (n - 1 - 1) P (fun e _ W' => e=.normal∧Pays w.heap.size W W' ∧ Kp W W' ∧ I (pre++[x]) W') a' W)
  (hdone:∀(D:Nat) (xs:List α) (W:World),w.heap.size≤D→S xs W→I xs W→W.heap[D]? = some (.deferred (some []))→Q .normal { a with defers:={ target:=.collected D,args:=#[] } :: a.defers } W) :
  (Code.rangeFunc g ps assign body).wpIn F n P Q a w:=by
 refine wpIn_rangeFunc ?_
 intro fn hfn
 rw[hro]
 obtain⟨rc,hrc⟩:∃rc:LoopState→Loop,rc=fun s=>{ state:=s,pending:=none,fn:=fn,tmps:=a.tmps,params:=ps,assign:=assign,body:=body,defers:=w.heap.size }:=⟨_,rfl⟩
 obtain⟨W1,hW1⟩:∃W1,(w.alloc (.deferred (some []))).alloc (.loop (rc .ready))=W1:=⟨_,rfl⟩
 have hT1:Turned w.heap.size w W1:=by rw[←hW1];exact Turned.of_below (((Below.refl _ w).alloc (Nat.le_refl _) _).alloc (by simp) _)
 have hL1:W1.heap[w.heap.size+1]? = some (.loop (rc .ready)):=by
  have h:=heap_alloc_new (w.alloc (.deferred (some []))) (.loop (rc .ready))
  rw[World.size_alloc] at h
  rw[←hW1];exact h
 have hD1:W1.heap[w.heap.size]? = some (.deferred (some [])):=by
  rw[←hW1];exact (Below.heap_alloc _ _ _ (by simp)).trans (heap_alloc_new w _)
 refine⟨w.heap.size+1,[{ target:=.collected w.heap.size,args:=#[] }],W1,{ target:=.fn (.func gf) lb,args:=#[.func (.yield (w.heap.size+1)) #[] #[]] },W1,gf,#[.func (.yield (w.heap.size+1)) #[] #[]]++lb,W1,?_,?_,?_,?_,fun _=>h1,?_⟩
 ·rw[←hW1,hrc];exact run_enterLoop_outer _ _ _ _ _
 ·simp only[resolve,hg]
  simp[go_sem]
 ·intro f' hf'
  simp[Target.leads] at hf'
  subst hf'
  exact hFg
 ·simp[invoke,go_sem,eg]
 ·have hro2:∀W,W.heap[w.heap.size+1]? = some (.loop (rc .ready))→Turned w.heap.size W (W.putObj (w.heap.size+1) (.loop (rc .busy))):=fun W h=>Turned.put (by omega) h rfl
  refine (hseq (w.heap.size+1) (fun pre W=>I pre W∧W.heap[w.heap.size+1]? = some (.loop (rc .ready))∧W.heap[w.heap.size]? = some (.deferred (some []))) W1 hT1 ?_ ?_ ⟨hI _ _ _ h0 hT1,hL1,hD1⟩).mono ?_
  ·rintro pre A A' ⟨k1,k2,k3⟩ hb
   exact⟨hI _ _ _ k1 (Turned.of_below hb),by rw[hb.block _ (Array.getElem?_eq_some_iff.1 k2).1];exact k2,by rw[hb.block _ (Array.getElem?_eq_some_iff.1 k3).1];exact k3⟩
  ·rintro pre x W ⟨k1,k2,k3⟩ kx kn
   have hlt:=(Array.getElem?_eq_some_iff.1 k2).1
   have hy:=run_yield (P:=P) (args:=encs x) k2 (by rw[hrc];exact hps x)
   rw[hrc] at hy
   refine⟨fn,_,assign,body,hy,roundIn_of_wpIn hfn (hassign _ pre x W _ k1 kx ?_)⟩
   intro a' W' hax hi' hx' hpay htn
   have k2' := hpay _ _ (by omega) k2 rfl
   have k3' := hpay _ _ (Nat.le_refl _) k3 rfl
   have hlt' := (Array.getElem?_eq_some_iff.1 k2').1
   have hbr:(Instr.beginRound (w.heap.size+1)).run P W' = .ok () (W'.putObj (w.heap.size+1) (.loop (rc .busy))):=by
    have:=run_beginRound (P:=P) k2' (by rw[hrc])
    rw[hrc] at this ⊢
    exact this
   refine⟨_,hbr,?_⟩
   have ht2:=hro2 W' k2'
   have kb:(W'.putObj (w.heap.size+1) (.loop (rc .busy))).heap[w.heap.size+1]? = some (.loop (rc .busy)):=World.putObj_heap_same hlt'
   have kd:(W'.putObj (w.heap.size+1) (.loop (rc .busy))).heap[w.heap.size]? = some (.deferred (some [])):=(World.putObj_heap_other (by omega)).trans k3'
   refine wpIn_mono (hbody _ pre x a' _ (hAx _ _ _ _ hax ht2) (hI _ _ _ hi' ht2) (hFx _ _ _ hx' ht2) kn) ?_
   rintro e a3 W3 ⟨rfl,hp3,hk3,hi3⟩
   have kb3:=hp3 _ _ (by omega) kb rfl
   have kd3:=hp3 _ _ (Nat.le_refl _) kd rfl
   have her:=run_endRound (P:=P) none kb3
   have ht3:Turned w.heap.size W3 (W3.putObj (w.heap.size+1) (.loop (rc .ready))):=Turned.put (by omega) kb3 rfl
   have hre:({ rc .busy with state:=if (none:Option Code).isNone then LoopState.ready else .done,pending:=none }:Loop)=rc .ready:=by rw[hrc];rfl
   rw[hre] at her
   refine⟨_,_,her,rfl,⟨hI _ _ _ hi3 ht3,World.putObj_heap_same (Array.getElem?_eq_some_iff.1 kb3).1,(World.putObj_heap_other (by omega)).trans kd3⟩,?_⟩
   exact hKt _ _ _ _ (htn.trans ht2) hk3 ht3
  ·rintro e W2 ⟨⟨v,rfl⟩,xs,hs,k1,k2,k3⟩
   have hel:=run_endLoop (P:=P) k2 (by rw[hrc];simp)
   have ht:∀o', Turned w.heap.size W2 (W2.putObj (w.heap.size+1) o'):=fun o' => Turned.put (by omega) k2 rfl
   have hpe:(rc .ready).pending=none:=by rw[hrc]
   rw[hpe] at hel
   exact⟨none,_,hel,hdone _ xs _ (Nat.le_refl _) (hS _ _ _ hs (ht _)) (hI _ _ _ k1 (ht _)) ((World.putObj_heap_other (by omega)).trans k3)⟩
def leaveBy {α:Type}(B:Nat)(Kp:World→World→Prop)(I:List α→World→Prop)(Ix:Code→List α→World→Prop)(pre:List α)(W:World):Exit→Act→World→Prop
 | .normal,_,W' => Pays B W W' ∧ Kp W W' ∧ I pre W'
 | .ret,_,W' => Pays B W W' ∧ Kp W W' ∧ Ix .ret pre W'
 | .exit id,_,W' => Pays B W W' ∧ Kp W W' ∧ Ix (.exit id) pre W'
 | .goto t,_,W' => Pays B W W' ∧ Kp W W' ∧ Ix (.goto t) pre W'
 | .panic _,_,_=>False
 | .outgrown,_,_=>False
def yieldBy {α:Type}(l:Nat)(Kp:World→World→Prop)(J X:List α→World→Prop)(pre:List α)(W:World)(e:Ending)(W' : World):Prop :=
 ((e=.returned (.bool true)∧J pre W')∨(e=.returned (.bool false)∧X pre W'))∧Kp W W' ∧ Pays (l+1) W W'
def Firm {α:Type}(l:Nat)(J:List α→World→Prop):Prop:=∀B pre A A', l<B→J pre A→Turned B A A' → J pre A'
theorem Turned.less {B B' : Nat}{A A' : World}(h:Turned B A A')(hB:B' ≤ B):Turned B' A A' :=
 ⟨h.os,h.tape,h.output,h.size,fun k o ho hk=>h.same k o ho (hk.imp (fun x=>by omega) id)⟩
theorem Pays.trans {B:Nat}{A A' A'' : World}(h:Pays B A A')(h' : Pays B A' A''):Pays B A A'' := fun k o hk ho hc=>h' k o hk (h k o hk ho hc) hc
theorem Pays.less {B B' : Nat}{A A' : World}(h:Pays B A A')(hB:B≤B'):Pays B' A A' := fun k o hk ho hc=>h k o (by omega) ho hc
theorem Pays.put {B l:Nat}{A:World}{o' : Obj}(hB:l<B):Pays B A (A.putObj l o'):=fun _ _ hk ho _=>(World.putObj_heap_other (by omega)).trans ho
theorem Pays.of_below {B:Nat}{A A' : World}(h:Below A.heap.size A A'):Pays B A A' := fun k _ _ ho _=>(h.block k (Array.getElem?_eq_some_iff.1 ho).1).trans ho
theorem rangeS {F:Fence}{n:Nat}{P:Program}{α:Type}{g:Operand}{ps:Array Tmp}{assign body:Code}{Q:Exit→Act→World→Prop}{a:Act}{w:World}
  (hro:F.round=none) (h1:1≤n) {gf:Nat} {lb:Array Value} (hg:a.eval g=.func (.func gf) #[] lb) (hFg:F.fn gf) (eg:∀args w,(callFunc gf args).run P w=.ok (.enter gf args) w)
  {encs:α→Array Value} (hps:∀x,(encs x).size=ps.size) {Fx:α→World→Prop} {Kp:World→World→Prop} {Done:List α→Prop} (Ok:List α→α→Prop)
  (I:List α→World→Prop) (Ix:Code→List α→World→Prop) (hI:∀pre A A', I pre A→Turned w.heap.size A A' → I pre A') (hIx:∀c pre A A', Ix c pre A→Turned w.heap.size A A' → Ix c pre A') (hFx:∀x A A', Fx x A→Turned w.heap.size A A' → Fx x A')
  (hKt:∀A A2 A3 A4,Turned w.heap.size A A2→Kp A2 A3→Turned w.heap.size A3 A4→Kp A A4)
  (hseq:∀(l:Nat) (J X:List α→World→Prop) (W:World),l<W.heap.size→Turned w.heap.size w W→Firm l J→Firm l X →
    (∀pre x W1,J pre W1→Fx x W1→Ok pre x→YieldAt F (n - 1 - 1) P l (encs x) W1 (yieldBy l Kp J X (pre++[x]) W1))→J [] W →
    CallsIn F (n - 1) P gf (#[.func (.yield l) #[] #[]]++lb) W fun e W' => (∃v,e=.returned v)∧((∃xs,Done xs∧J xs W')∨∃xs,X xs W'))
  (h0:I [] w) (Ax:α→Act→World→Prop)
  (hassign:∀(l:Nat) (pre:List α) (x:α) (W:World) (K:Act→World→Prop),I pre W→Fx x W→(∀a' W', Ax x a' W' → I pre W' → Fx x W' → Pays w.heap.size W W' → Turned w.heap.size W W' → K a' W') →
    assign.wpIn (F.inRound l) (n - 1 - 1) P (Exit.then K (fun _ _ _=>False)) { tmps:=(ps.zip (encs x)).foldl (fun t (p,v)=>t.setIfInBounds p v) a.tmps,defers:=[] } W)
  (hAx:∀x a' A A', Ax x a' A→Turned w.heap.size A A' → Ax x a' A')
  (hbody:∀(l:Nat) (pre:List α) (x:α) (a' : Act) (W:World),Ax x a' W→I pre W→Fx x W→Ok pre x→w.heap.size≤l→(∃r,W.heap[l]? = some (.loop r))→body.wpIn (F.inRound l) (n - 1 - 1) P (leaveBy w.heap.size Kp I Ix (pre++[x]) W) a' W)
  (hdone:∀(D:Nat) (xs:List α) (W:World),w.heap.size≤D→Done xs→I xs W→W.heap[D]? = some (.deferred (some []))→Q .normal { a with defers:={ target:=.collected D,args:=#[] } :: a.defers } W)
  (hstop:∀(D:Nat) (c:Code) (xs:List α) (W:World),w.heap.size≤D→Ix c xs W→W.heap[D]? = some (.deferred (some []))→c.wpIn F n P Q { a with defers:={ target:=.collected D,args:=#[] } :: a.defers } W) :
  (Code.rangeFunc g ps assign body).wpIn F n P Q a w:=by
 refine wpIn_rangeFunc ?_
 intro fn hfn
 rw[hro]
 obtain⟨rc,hrc⟩:∃rc:LoopState→Option Code→Loop,rc=fun s pe=>{ state:=s,pending:=pe,fn:=fn,tmps:=a.tmps,params:=ps,assign:=assign,body:=body,defers:=w.heap.size }:=⟨_,rfl⟩
 obtain⟨W1,hW1⟩:∃W1,(w.alloc (.deferred (some []))).alloc (.loop (rc .ready none))=W1:=⟨_,rfl⟩
 have hT1:Turned w.heap.size w W1:=by rw[←hW1];exact Turned.of_below (((Below.refl _ w).alloc (Nat.le_refl _) _).alloc (by simp) _)
 have hL1:W1.heap[w.heap.size+1]? = some (.loop (rc .ready none)):=by
  have h:=heap_alloc_new (w.alloc (.deferred (some []))) (.loop (rc .ready none))
  rw[World.size_alloc] at h
  rw[←hW1];exact h
 have hD1:W1.heap[w.heap.size]? = some (.deferred (some [])):=by
  rw[←hW1];exact (Below.heap_alloc _ _ _ (by simp)).trans (heap_alloc_new w _)
 refine⟨w.heap.size+1,[{ target:=.collected w.heap.size,args:=#[] }],W1,{ target:=.fn (.func gf) lb,args:=#[.func (.yield (w.heap.size+1)) #[] #[]] },W1,gf,#[.func (.yield (w.heap.size+1)) #[] #[]]++lb,W1,?_,?_,?_,?_,fun _=>h1,?_⟩
 ·rw[←hW1,hrc];exact run_enterLoop_outer _ _ _ _ _
 ·simp only[resolve,hg]
  simp[go_sem]
 ·intro f' hf'
  simp[Target.leads] at hf'
  subst hf'
  exact hFg
 ·simp[invoke,go_sem,eg]
 ·refine (hseq (w.heap.size+1) (fun pre W=>I pre W∧W.heap[w.heap.size+1]? = some (.loop (rc .ready none))∧W.heap[w.heap.size]? = some (.deferred (some [])))
   (fun pre W=>∃c,Ix c pre W∧W.heap[w.heap.size+1]? = some (.loop (rc .done (some c)))∧W.heap[w.heap.size]? = some (.deferred (some []))) W1 (by rw[←hW1];simp) hT1 ?_ ?_ ?_ ⟨hI _ _ _ h0 hT1,hL1,hD1⟩).mono ?_
  ·rintro B pre A A' hB ⟨k1,k2,k3⟩ hb
   exact⟨hI _ _ _ k1 (hb.less (by omega)),hb.same _ _ k2 (.inl hB),hb.same _ _ k3 (.inl (by omega))⟩
  ·rintro B pre A A' hB ⟨c,k1,k2,k3⟩ hb
   exact⟨c,hIx _ _ _ _ k1 (hb.less (by omega)),hb.same _ _ k2 (.inl hB),hb.same _ _ k3 (.inl (by omega))⟩
  ·rintro pre x W ⟨k1,k2,k3⟩ kx kn
   have hy:=run_yield (P:=P) (args:=encs x) k2 (by rw[hrc];exact hps x)
   rw[hrc] at hy
   refine⟨fn,_,assign,body,hy,roundIn_of_wpIn hfn (hassign _ pre x W _ k1 kx ?_)⟩
   intro a' W' hax hi' hx' hpay htn
   have k2' := hpay _ _ (by omega) k2 rfl
   have k3' := hpay _ _ (Nat.le_refl _) k3 rfl
   have hlt' := (Array.getElem?_eq_some_iff.1 k2').1
   have hbr:(Instr.beginRound (w.heap.size+1)).run P W' = .ok () (W'.putObj (w.heap.size+1) (.loop (rc .busy none))):=by
    have:=run_beginRound (P:=P) k2' (by rw[hrc])
    rw[hrc] at this ⊢
    exact this
   refine⟨_,hbr,?_⟩
   have ht2:Turned w.heap.size W' (W'.putObj (w.heap.size+1) (.loop (rc .busy none))):=Turned.put (by omega) k2' rfl
   have kb:(W'.putObj (w.heap.size+1) (.loop (rc .busy none))).heap[w.heap.size+1]? = some (.loop (rc .busy none)):=World.putObj_heap_same hlt'
   have kd:(W'.putObj (w.heap.size+1) (.loop (rc .busy none))).heap[w.heap.size]? = some (.deferred (some [])):=(World.putObj_heap_other (by omega)).trans k3'
   have fin:∀(jump:Option Code) (W3:World),Pays w.heap.size (W'.putObj (w.heap.size+1) (.loop (rc .busy none))) W3 →
     (Instr.endRound (w.heap.size+1) jump).run P W3=.ok (.bool jump.isNone) (W3.putObj (w.heap.size+1) (.loop (rc (if jump.isNone then .ready else .done) jump))) ∧
     Turned w.heap.size W3 (W3.putObj (w.heap.size+1) (.loop (rc (if jump.isNone then .ready else .done) jump))) ∧
     (W3.putObj (w.heap.size+1) (.loop (rc (if jump.isNone then .ready else .done) jump))).heap[w.heap.size+1]? = some (.loop (rc (if jump.isNone then .ready else .done) jump)) ∧
     (W3.putObj (w.heap.size+1) (.loop (rc (if jump.isNone then .ready else .done) jump))).heap[w.heap.size]? = some (.deferred (some [])):=fun jump W3 hp3=>by
    have kb3:=hp3 _ _ (by omega) kb rfl
    have kd3:=hp3 _ _ (Nat.le_refl _) kd rfl
    have her:=run_endRound (P:=P) jump kb3
    rw[hrc] at her ⊢
    refine⟨her,Turned.put (by omega) kb3 rfl,World.putObj_heap_same (Array.getElem?_eq_some_iff.1 kb3).1,(World.putObj_heap_other (by omega)).trans kd3⟩
   refine wpIn_mono (hbody _ pre x a' _ (hAx _ _ _ _ hax ht2) (hI _ _ _ hi' ht2) (hFx _ _ _ hx' ht2) kn (by omega) ⟨_,kb⟩) ?_
   rintro e a3 W3 hp
   cases e with
   | normal =>
     obtain⟨hp3,hk3,hi3⟩:=hp
     obtain⟨hr,ht3,hl4,hk4⟩:=fin none W3 hp3
     exact⟨_,_,hr,.inl ⟨rfl,hI _ _ _ hi3 ht3,hl4,hk4⟩,hKt _ _ _ _ (htn.trans ht2) hk3 ht3,((hpay.less (by omega)).trans (Pays.put (by omega))).trans ((hp3.less (by omega)).trans (Pays.put (by omega)))⟩
   | ret =>
     obtain⟨hp3,hk3,hi3⟩:=hp
     obtain⟨hr,ht3,hl4,hk4⟩:=fin (some .ret) W3 hp3
     exact⟨_,_,hr,.inr ⟨rfl,_,hIx _ _ _ _ hi3 ht3,hl4,hk4⟩,hKt _ _ _ _ (htn.trans ht2) hk3 ht3,((hpay.less (by omega)).trans (Pays.put (by omega))).trans ((hp3.less (by omega)).trans (Pays.put (by omega)))⟩
   | exit id =>
     obtain⟨hp3,hk3,hi3⟩:=hp
     obtain⟨hr,ht3,hl4,hk4⟩:=fin (some (.exit id)) W3 hp3
     exact⟨_,_,hr,.inr ⟨rfl,_,hIx _ _ _ _ hi3 ht3,hl4,hk4⟩,hKt _ _ _ _ (htn.trans ht2) hk3 ht3,((hpay.less (by omega)).trans (Pays.put (by omega))).trans ((hp3.less (by omega)).trans (Pays.put (by omega)))⟩
   | goto t =>
     obtain⟨hp3,hk3,hi3⟩:=hp
     obtain⟨hr,ht3,hl4,hk4⟩:=fin (some (.goto t)) W3 hp3
     exact⟨_,_,hr,.inr ⟨rfl,_,hIx _ _ _ _ hi3 ht3,hl4,hk4⟩,hKt _ _ _ _ (htn.trans ht2) hk3 ht3,((hpay.less (by omega)).trans (Pays.put (by omega))).trans ((hp3.less (by omega)).trans (Pays.put (by omega)))⟩
   | panic ch=>exact hp.elim
   | outgrown=>exact hp.elim
  ·rintro e W2 ⟨⟨v,rfl⟩,(⟨xs,hs,k1,k2,k3⟩|⟨xs,c,k1,k2,k3⟩)⟩
   ·have hel:=run_endLoop (P:=P) k2 (by rw[hrc];simp)
    have ht:∀o', Turned w.heap.size W2 (W2.putObj (w.heap.size+1) o'):=fun o' => Turned.put (by omega) k2 rfl
    rw[hrc] at hel
    exact⟨none,_,hel,hdone _ xs _ (Nat.le_refl _) hs (hI _ _ _ k1 (ht _)) ((World.putObj_heap_other (by omega)).trans k3)⟩
   ·have hel:=run_endLoop (P:=P) k2 (by rw[hrc];simp)
    have ht:∀o', Turned w.heap.size W2 (W2.putObj (w.heap.size+1) o'):=fun o' => Turned.put (by omega) k2 rfl
    rw[hrc] at hel
    exact⟨some c,_,hel,hstop _ c xs _ (Nat.le_refl _) (hIx _ _ _ _ k1 (ht _)) ((World.putObj_heap_other (by omega)).trans k3)⟩
theorem rangeSN {F:Fence}{n:Nat}{P:Program}{α:Type}{g:Operand}{ps:Array Tmp}{assign body:Code}{Q:Exit→Act→World→Prop}{a:Act}{w:World}
  {l0:Nat} {r0:Loop} (hro:F.round=some l0) (hl0:w.heap[l0]? = some (.loop r0)) (h1:1≤n) {gf:Nat} {lb:Array Value} (hg:a.eval g=.func (.func gf) #[] lb) (hFg:F.fn gf) (eg:∀args w,(callFunc gf args).run P w=.ok (.enter gf args) w)
  {encs:α→Array Value} (hps:∀x,(encs x).size=ps.size) {Fx:α→World→Prop} {Kp:World→World→Prop} {Done:List α→Prop} (Ok:List α→α→Prop)
  (I:List α→World→Prop) (Ix:Code→List α→World→Prop) (hI:∀pre A A', I pre A→Turned w.heap.size A A' → I pre A') (hIx:∀c pre A A', Ix c pre A→Turned w.heap.size A A' → Ix c pre A') (hFx:∀x A A', Fx x A→Turned w.heap.size A A' → Fx x A')
  (hKt:∀A A2 A3 A4,Turned w.heap.size A A2→Kp A2 A3→Turned w.heap.size A3 A4→Kp A A4)
  (hseq:∀(l:Nat) (J X:List α→World→Prop) (W:World),l<W.heap.size→Turned w.heap.size w W→Firm l J→Firm l X →
    (∀pre x W1,J pre W1→Fx x W1→Ok pre x→YieldAt F (n - 1 - 1) P l (encs x) W1 (yieldBy l Kp J X (pre++[x]) W1))→J [] W →
    CallsIn F (n - 1) P gf (#[.func (.yield l) #[] #[]]++lb) W fun e W' => (∃v,e=.returned v)∧((∃xs,Done xs∧J xs W')∨∃xs,X xs W'))
  (h0:I [] w) (Ax:α→Act→World→Prop)
  (hassign:∀(l:Nat) (pre:List α) (x:α) (W:World) (K:Act→World→Prop),I pre W→Fx x W→(∀a' W', Ax x a' W' → I pre W' → Fx x W' → Pays w.heap.size W W' → Turned w.heap.size W W' → K a' W') →
    assign.wpIn (F.inRound l) (n - 1 - 1) P (Exit.then K (fun _ _ _=>False)) { tmps:=(ps.zip (encs x)).foldl (fun t (p,v)=>t.setIfInBounds p v) a.tmps,defers:=[] } W)
  (hAx:∀x a' A A', Ax x a' A→Turned w.heap.size A A' → Ax x a' A')
  (hbody:∀(l:Nat) (pre:List α) (x:α) (a' : Act) (W:World),Ax x a' W→I pre W→Fx x W→Ok pre x→w.heap.size≤l→(∃r,W.heap[l]? = some (.loop r))→body.wpIn (F.inRound l) (n - 1 - 1) P (leaveBy w.heap.size Kp I Ix (pre++[x]) W) a' W)
  (hdone:∀(xs:List α) (W:World),Done xs→I xs W→Q .normal a W)
  (hstop:∀(c:Code) (xs:List α) (W:World),Ix c xs W→c.wpIn F n P Q a W) :
  (Code.rangeFunc g ps assign body).wpIn F n P Q a w:=by
 refine wpIn_rangeFunc ?_
 intro fn hfn
 rw[hro]
 obtain⟨rc,hrc⟩:∃rc:LoopState→Option Code→Loop,rc=fun s pe=>{ state:=s,pending:=pe,fn:=fn,tmps:=a.tmps,params:=ps,assign:=assign,body:=body,defers:=r0.defers }:=⟨_,rfl⟩
 obtain⟨W1,hW1⟩:∃W1,w.alloc (.loop (rc .ready none))=W1:=⟨_,rfl⟩
 have hT1:Turned w.heap.size w W1:=by rw[←hW1];exact Turned.of_below ((Below.refl _ w).alloc (Nat.le_refl _) _)
 have hL1:W1.heap[w.heap.size]? = some (.loop (rc .ready none)):=by rw[←hW1];exact heap_alloc_new w _
 refine⟨w.heap.size,[],W1,{ target:=.fn (.func gf) lb,args:=#[.func (.yield w.heap.size) #[] #[]] },W1,gf,#[.func (.yield w.heap.size) #[] #[]]++lb,W1,?_,?_,?_,?_,fun _=>h1,?_⟩
 ·rw[←hW1,hrc];exact run_enterLoop_inner hl0 _ _ _ _ _
 ·simp only[resolve,hg]
  simp[go_sem]
 ·intro f' hf'
  simp[Target.leads] at hf'
  subst hf'
  exact hFg
 ·simp[invoke,go_sem,eg]
 ·refine (hseq w.heap.size (fun pre W=>I pre W∧W.heap[w.heap.size]? = some (.loop (rc .ready none)))
   (fun pre W=>∃c,Ix c pre W∧W.heap[w.heap.size]? = some (.loop (rc .done (some c)))) W1 (by rw[←hW1];simp) hT1 ?_ ?_ ?_ ⟨hI _ _ _ h0 hT1,hL1⟩).mono ?_
  ·rintro B pre A A' hB ⟨k1,k2⟩ hb
   exact⟨hI _ _ _ k1 (hb.less (by omega)),hb.same _ _ k2 (.inl hB)⟩
  ·rintro B pre A A' hB ⟨c,k1,k2⟩ hb
   exact⟨c,hIx _ _ _ _ k1 (hb.less (by omega)),hb.same _ _ k2 (.inl hB)⟩
  ·rintro pre x W ⟨k1,k2⟩ kx kn
   have hy:=run_yield (P:=P) (args:=encs x) k2 (by rw[hrc];exact hps x)
   rw[hrc] at hy
   refine⟨fn,_,assign,body,hy,roundIn_of_wpIn hfn (hassign _ pre x W _ k1 kx ?_)⟩
   intro a' W' hax hi' hx' hpay htn
   have k2' := hpay _ _ (Nat.le_refl _) k2 rfl
   have hlt' := (Array.getElem?_eq_some_iff.1 k2').1
   have hbr:(Instr.beginRound w.heap.size).run P W' = .ok () (W'.putObj w.heap.size (.loop (rc .busy none))):=by
    have:=run_beginRound (P:=P) k2' (by rw[hrc])
    rw[hrc] at this ⊢
    exact this
   refine⟨_,hbr,?_⟩
   have ht2:Turned w.heap.size W' (W'.putObj w.heap.size (.loop (rc .busy none))):=Turned.put (Nat.le_refl _) k2' rfl
   have kb:(W'.putObj w.heap.size (.loop (rc .busy none))).heap[w.heap.size]? = some (.loop (rc .busy none)):=World.putObj_heap_same hlt'
   have fin:∀(jump:Option Code) (W3:World),Pays w.heap.size (W'.putObj w.heap.size (.loop (rc .busy none))) W3 →
     (Instr.endRound w.heap.size jump).run P W3=.ok (.bool jump.isNone) (W3.putObj w.heap.size (.loop (rc (if jump.isNone then .ready else .done) jump))) ∧
     Turned w.heap.size W3 (W3.putObj w.heap.size (.loop (rc (if jump.isNone then .ready else .done) jump))) ∧
     (W3.putObj w.heap.size (.loop (rc (if jump.isNone then .ready else .done) jump))).heap[w.heap.size]? = some (.loop (rc (if jump.isNone then .ready else .done) jump)):=fun jump W3 hp3=>by
    have kb3:=hp3 _ _ (Nat.le_refl _) kb rfl
    have her:=run_endRound (P:=P) jump kb3
    rw[hrc] at her ⊢
    refine⟨her,Turned.put (Nat.le_refl _) kb3 rfl,World.putObj_heap_same (Array.getElem?_eq_some_iff.1 kb3).1⟩
   refine wpIn_mono (hbody _ pre x a' _ (hAx _ _ _ _ hax ht2) (hI _ _ _ hi' ht2) (hFx _ _ _ hx' ht2) kn (Nat.le_refl _) ⟨_,kb⟩) ?_
   rintro e a3 W3 hp
   cases e with
   | normal =>
     obtain⟨hp3,hk3,hi3⟩:=hp
     obtain⟨hr,ht3,hl4⟩:=fin none W3 hp3
     exact⟨_,_,hr,.inl ⟨rfl,hI _ _ _ hi3 ht3,hl4⟩,hKt _ _ _ _ (htn.trans ht2) hk3 ht3,((hpay.less (by omega)).trans (Pays.put (by omega))).trans ((hp3.less (by omega)).trans (Pays.put (by omega)))⟩
   | ret =>
     obtain⟨hp3,hk3,hi3⟩:=hp
     obtain⟨hr,ht3,hl4⟩:=fin (some .ret) W3 hp3
     exact⟨_,_,hr,.inr ⟨rfl,_,hIx _ _ _ _ hi3 ht3,hl4⟩,hKt _ _ _ _ (htn.trans ht2) hk3 ht3,((hpay.less (by omega)).trans (Pays.put (by omega))).trans ((hp3.less (by omega)).trans (Pays.put (by omega)))⟩
   | exit id =>
     obtain⟨hp3,hk3,hi3⟩:=hp
     obtain⟨hr,ht3,hl4⟩:=fin (some (.exit id)) W3 hp3
     exact⟨_,_,hr,.inr ⟨rfl,_,hIx _ _ _ _ hi3 ht3,hl4⟩,hKt _ _ _ _ (htn.trans ht2) hk3 ht3,((hpay.less (by omega)).trans (Pays.put (by omega))).trans ((hp3.less (by omega)).trans (Pays.put (by omega)))⟩
   | goto t =>
     obtain⟨hp3,hk3,hi3⟩:=hp
     obtain⟨hr,ht3,hl4⟩:=fin (some (.goto t)) W3 hp3
     exact⟨_,_,hr,.inr ⟨rfl,_,hIx _ _ _ _ hi3 ht3,hl4⟩,hKt _ _ _ _ (htn.trans ht2) hk3 ht3,((hpay.less (by omega)).trans (Pays.put (by omega))).trans ((hp3.less (by omega)).trans (Pays.put (by omega)))⟩
   | panic ch=>exact hp.elim
   | outgrown=>exact hp.elim
  ·rintro e W2 ⟨⟨v,rfl⟩,(⟨xs,hs,k1,k2⟩|⟨xs,c,k1,k2⟩)⟩
   ·have hel:=run_endLoop (P:=P) k2 (by rw[hrc];simp)
    have ht:∀o', Turned w.heap.size W2 (W2.putObj w.heap.size o'):=fun o' => Turned.put (Nat.le_refl _) k2 rfl
    rw[hrc] at hel
    exact⟨none,_,hel,hdone xs _ hs (hI _ _ _ k1 (ht _))⟩
   ·have hel:=run_endLoop (P:=P) k2 (by rw[hrc];simp)
    have ht:∀o', Turned w.heap.size W2 (W2.putObj w.heap.size o'):=fun o' => Turned.put (Nat.le_refl _) k2 rfl
    rw[hrc] at hel
    exact⟨some c,_,hel,hstop c xs _ (hIx _ _ _ _ k1 (ht _))⟩
end Go.Proofs.YthdjmldddjljfaaGreatDoor
