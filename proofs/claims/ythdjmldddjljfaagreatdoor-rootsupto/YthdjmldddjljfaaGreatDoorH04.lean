/-
  OUR OWN.
-/
import Derived.Test.YthdjmldddjljfaaGreatDoorH02
import Derived.Deep.RegionHeld3
set_option maxHeartbeats 8000000
set_option maxRecDepth 20000
namespace Go.Proofs.YthdjmldddjljfaaGreatDoor
open Go
section
variable {P:Program} {ops:Array Oper} {Q:Exit→Act→World→Prop} {md:Region.Mode} {S:World→Prop} {n:Nat}
def waits (md:Region.Mode)(ops:Array Oper)(i:Nat):List Nat :=
 match ops[i]? with
 | some o=>(o.after.toList.filter (Region.binds md)).map (·.on)
 | none=>[]
theorem mem_waits {i j:Nat}:j∈waits md ops i↔∃o,ops[i]? = some o∧∃e∈o.after,Region.binds md e=true∧e.on=j:=by
 unfold waits
 cases h:ops[i]? with
 | none=>simp
 | some o=>simp[and_assoc]
theorem ready_waits {i:Nat}{listed:Array Bool}(h:i∈Region.ready md ops listed):∀j∈waits md ops i,listed.getD j false=true:=fun j hj=>by
 obtain⟨_,o,ho,hall⟩:=mem_ready.1 h
 obtain⟨o', ho', e,he,hb,rfl⟩:=mem_waits.1 hj
 rw[ho] at ho'
 cases ho'
 exact hall e he hb
def wpTill (P:Program)(md:Region.Mode)(ops:Array Oper)(Q:Exit→Act→World→Prop)(S:World→Prop)(n:Nat):Nat→Array Bool→Act→World→Prop
 | 0,listed,a,w=>Region.ready md ops listed=[]∧Q .normal a w
 | fuel+1,listed,a,w =>
   (Region.ready md ops listed=[]→Q .normal a w) ∧
   ∀i∈Region.ready md ops listed,wpOp P ops Q i (fun a' w' => (listed.getD n true=false→i≠n→S w')∧wpTill P md ops Q S n fuel (listed.setIfInBounds i true) a' w') a w
theorem wpAny_of_till:∀(fuel:Nat) (listed:Array Bool) (a:Act) (w:World),wpTill P md ops Q S n fuel listed a w→wpAny P md ops Q fuel listed a w
 | 0,_,_,_,h=>h
 | fuel+1,_,_,_,h=>⟨h.1,fun i hi=>wpOp_mono (fun a' w' h' => wpAny_of_till fuel _ a' w' h'.2) (h.2 i hi)⟩
theorem wpTill_first {S₁:World→Prop}{i:Nat}{oi:Oper}{v:Value}(hi:ops[i]? = some oi)(hsel:∀(j:Nat) (o:Oper) cs b,ops[j]? = some o→o.op≠.select cs b)(hin:i≠n)
  (hQ:∀c a w,Q (.panic c) (a.put oi.dst v) w→Q (.panic c) a w) :
  ∀(fuel:Nat) (listed:Array Bool) (a:Act) (w:World),
   (∀j oj,ops[j]? = some oj→j≠i→listed.getD j true=false→(∀e∈oj.after,Region.binds md e=true→e.on≠i)→oi.apart ops oj=true) →
   ((∀w,S₁ w)∨((∀w,S w→S₁ w)∧i∈waits md ops n∧listed.getD n true=false)) →
   i∈Region.ready md ops listed→YieldsIf P ops S₁ oi v a→S₁ w→(listed.getD n true=false→S w) →
   wpTill P md ops Q S n fuel (listed.setIfInBounds i true) (a.put oi.dst v) w→wpTill P md ops Q S n (fuel+1) listed a w:=by
 intro fuel
 induction fuel with
 | zero =>
   intro listed a w _ _ hr hy hS hSn H
   refine⟨fun h=>(by rw[h] at hr;cases hr),fun j hj=>?_⟩
   by_cases hji:j=i
   ·subst hji;exact hy.wpOp hi hS ⟨fun h _=>hSn h,H⟩
   ·have:=ready_mono hj hji
    rw[H.1] at this
    cases this
 | succ fuel ih =>
   intro listed a w hfree hk hr hy hS hSn H
   refine⟨fun h=>(by rw[h] at hr;cases hr),fun j hj=>?_⟩
   by_cases hji:j=i
   ·subst hji;exact hy.wpOp hi hS ⟨fun h _=>hSn h,H⟩
   ·have h1:=H.2 j (ready_mono hj hji)
    obtain⟨hjun,oj,hoj,hall⟩:=mem_ready.1 hj
    have hnl:listed.getD i false≠true:=fun h=>by
     have h0:=(mem_ready.1 hr).1
     rcases Nat.lt_or_ge i listed.size with h' | h'
     ·simp[h'] at h0 h;rw[h0] at h;cases h
     ·simp[Array.getElem?_eq_none h'] at h
    have hnot:∀e∈oj.after,Region.binds md e=true→e.on≠i:=fun e he hb heq=>hnl (heq ▸ hall e he hb)
    have h2:=wpOp_putIf hoj (hfree j oj hoj hji hjun hnot) (fun cs b=>hsel i oi cs b hi) (fun cs b=>hsel j oj cs b hoj) hQ hy h1
    have hfree' : ∀k ok,ops[k]? = some ok→k≠i→(listed.setIfInBounds j true).getD k true=false →
      (∀e∈ok.after,Region.binds md e=true→e.on≠i)→oi.apart ops ok=true:=fun k ok hk hki hun hno=>by
     refine hfree k ok hk hki ?_ hno
     by_cases hjk:j=k
     ·subst hjk;exact hjun
     ·rw[getD_set_ne true hjk] at hun;exact hun
    have hsame:(listed.setIfInBounds i true).getD n true=listed.getD n true:=getD_set_ne true hin
    refine wpOp_mono (fun a' w' h3=>?_) h2
    obtain⟨hy', hS', H'⟩:=h3
    rw[hsame] at hS'
    have hkj:(∀w,S₁ w)∨((∀w,S w→S₁ w)∧i∈waits md ops n∧(listed.setIfInBounds j true).getD n true=false∧listed.getD n true=false∧j≠n):=by
     rcases hk with hk|⟨k1,k2,k3⟩
     ·exact .inl hk
     ·have hjn:j≠n:=fun e=>hnl (ready_waits hj i (e ▸ k2))
      exact .inr ⟨k1,k2,by rw[getD_set_ne true hjn];exact k3,k3,hjn⟩
    refine⟨hS', ih (listed.setIfInBounds j true) a' w' hfree' ?_ (ready_mono hr (Ne.symm hji)) hy' ?_ ?_ ?_⟩
    ·rcases hkj with k|⟨k1,k2,k3,_⟩
     ·exact .inl k
     ·exact .inr ⟨k1,k2,k3⟩
    ·rcases hkj with k|⟨k1,_,_,k4,k5⟩
     ·exact k w'
     ·exact k1 w' (hS' k4 k5)
    ·intro hn
     by_cases hjn:j=n
     ·subst hjn
      exfalso
      have hlt:j<listed.size:=by
       rcases Nat.lt_or_ge j listed.size with h' | h'
       ·exact h'
       ·simp[Array.getElem?_eq_none h'] at hjun
      simp[hlt] at hn
     ·rw[getD_set_ne true hjn] at hn
      exact hS' hn hjn
    ·rw[Array.setIfInBounds_comm _ _ hji]
     exact H'
theorem wpTill_take {i:Nat}{oi:Oper}{v:Value}{fuel:Nat}{listed:Array Bool}{a:Act}{w:World}(hi:ops[i]? = some oi)
  (hc:(Region.noSelect ops && Region.free md ops listed i && (Region.ready md ops listed).contains i && (waits md ops n).contains i && !listed.getD n true && !(i == n))=true)
  (hQ:∀c a w,Q (.panic c) (a.put oi.dst v) w→Q (.panic c) a w) (hy:YieldsIf P ops S oi v a) (hS:S w)
  (h:wpTill P md ops Q S n fuel (listed.setIfInBounds i true) (a.put oi.dst v) w):wpTill P md ops Q S n (fuel+1) listed a w:=by
 simp only[Bool.and_eq_true,Bool.not_eq_true', beq_eq_false_iff_ne,List.contains_iff_mem] at hc
 obtain⟨⟨⟨⟨⟨h1,h2⟩,h3⟩,h4⟩,h5⟩,h6⟩:=hc
 exact wpTill_first (S₁:=S) hi (Region.noSelect_spec h1) h6 hQ fuel listed a w (Region.free_spec hi h2) (.inr ⟨fun _ h=>h,h4,h5⟩) h3 hy hS (fun _=>hS) h
theorem wpTill_pure {i:Nat}{oi:Oper}{v:Value}{fuel:Nat}{listed:Array Bool}{a:Act}{w:World}(hi:ops[i]? = some oi)
  (hc:(Region.noSelect ops && Region.free md ops listed i && (Region.ready md ops listed).contains i && !(i == n))=true)
  (hQ:∀c a w,Q (.panic c) (a.put oi.dst v) w→Q (.panic c) a w) (hy:YieldsIf P ops (fun _=>True) oi v a) (hS:S w)
  (h:wpTill P md ops Q S n fuel (listed.setIfInBounds i true) (a.put oi.dst v) w):wpTill P md ops Q S n (fuel+1) listed a w:=by
 simp only[Bool.and_eq_true,Bool.not_eq_true', beq_eq_false_iff_ne,List.contains_iff_mem] at hc
 obtain⟨⟨⟨h1,h2⟩,h3⟩,h6⟩:=hc
 exact wpTill_first (S₁:=fun _=>True) hi (Region.noSelect_spec h1) h6 hQ fuel listed a w (Region.free_spec hi h2) (.inl fun _=>trivial) h3 hy trivial (fun _=>hS) h
theorem wpTill_one {i:Nat}{o:Oper}{fuel:Nat}{listed:Array Bool}{a:Act}{w:World}(hr:Region.ready md ops listed=[i])(ho:ops[i]? = some o)
  (h:∀K' : Act→World→Prop,Shut (∀a w,(i≠n→S w)→wpTill P md ops Q S n fuel (listed.setIfInBounds i true) a w→K' a w)→if Region.wanted o (yielded ops a.tmps)=true then Oper.wp P o a w K' Q else K' (a.put o.dst undef) w) :
  wpTill P md ops Q S n (fuel+1) listed a w:=by
 refine⟨fun h0=>(by rw[h0] at hr;cases hr),fun j hj=>?_⟩
 rw[hr] at hj
 obtain rfl:j=i:=by simpa using hj
 exact wpOp_step ho (fun K' hK=>h K' (fun a w hS hW=>hK a w ⟨fun _=>hS,hW⟩))
theorem wpTill_done {listed:Array Bool}{a:Act}{w:World}(hr:Region.ready md ops listed=[])(h:Q .normal a w):∀fuel,wpTill P md ops Q S n fuel listed a w
 | 0=>⟨hr,h⟩
 | _+1=>⟨fun _=>h,by rw[hr];simp⟩
theorem wp_region_till (n:Nat)(S:World→Prop){id:Nat}{a:Act}{w:World}(hm:P.follows .mixedOrders=true)
  (h:wpTill P .any ops Q S n ops.size (Array.replicate ops.size false) a w.drew):(Code.region id ops true).wp P Q a w :=
 wp_region_any hm (wpAny_of_till _ _ _ _ h)
end
end Go.Proofs.YthdjmldddjljfaaGreatDoor
