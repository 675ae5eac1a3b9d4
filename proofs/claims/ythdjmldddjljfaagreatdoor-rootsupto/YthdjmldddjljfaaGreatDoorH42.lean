/-
  OUR OWN.
-/
import Derived.Test.YthdjmldddjljfaaGreatDoorCards
import Derived.Test.YthdjmldddjljfaaGreatDoorTie
import Derived.Test.YthdjmldddjljfaaGreatDoorH39
import Derived.ProofKit
import Derived.OpenShut
import Derived.ShutString
import Derived.ChangeOld
import Derived.Below
import Derived.SizedLaws
import Derived.Deep.DeepHandedRow
import Derived.Lib.LaidTab
import Derived.Stop.LaidErr
import Derived.Deep.SlicePairs
set_option maxHeartbeats 8000000
set_option maxRecDepth 20000
namespace Go.Proofs.YthdjmldddjljfaaGreatDoor
open Go.ChangeShapes Go.WideShapes Go.ChangeAt Go.RowKit
open Go.ChangeMaps (open_string shut_string)
theorem own:ownKnob Tryz.prog.godebug=none:=by kernel_rfl
theorem laidOut:laidOutB Tryz.prog=true:=by kernel_rfl
theorem gRc : Tryz.prog.globalNamed "canopy/keccak.roundConstants" = some 0 := by kernel_rfl
theorem gTu : Tryz.prog.globalNamed "canopy/keccak.turns" = some 1 := by kernel_rfl
theorem gRcType:(Tryz.prog.globals[0]?).map (·.type)=some 236:=by kernel_rfl
theorem gTuType:(Tryz.prog.globals[1]?).map (·.type)=some 255:=by kernel_rfl
theorem cellsRc:Tryz.prog.cellsOf 236=24:=by kernel_rfl
theorem cellsTu:Tryz.prog.cellsOf 255=25:=by kernel_rfl
theorem cellsU:Tryz.prog.cellsOf 156=1:=by kernel_rfl
theorem cellsI:Tryz.prog.cellsOf 3=1:=by kernel_rfl
theorem cellsS:Tryz.prog.cellsOf 9=1:=by kernel_rfl
theorem cellsP:Tryz.prog.cellsOf 33=2:=by kernel_rfl
def rcL:List Int:=[1,32898,9223372036854808714,9223372039002292224,32907,2147483649,9223372039002292353,9223372036854808585,138,136,2147516425,2147483658,2147516555,9223372036854775947,9223372036854808713,9223372036854808579,9223372036854808578,9223372036854775936,32778,9223372039002259466,9223372039002292353,9223372036854808704,2147483649,9223372039002292232]
def tuL:List Int:=[0,1,62,28,27,36,44,6,55,20,3,10,43,25,39,41,45,15,21,8,18,2,61,56,14]
theorem rc_at (j:Nat)(hj:j<24):rcL.getD j 0=((rc j:Nat):Int):=by
 have h:∀i:Fin 24,rcL.getD i.val 0=((rc i.val:Nat):Int):=by decide +kernel
 exact h ⟨j,hj⟩
theorem tu_at (j:Nat)(hj:j<25):tuL.getD j 0=((tu j:Nat):Int):=by
 have h:∀i:Fin 25,tuL.getD i.val 0=((tu i.val:Nat):Int):=by decide +kernel
 exact h ⟨j,hj⟩
def sOf {H:Type}(s:ByteArray):DataW H:=.lit (.string s.data.toList)
def pOf {H:Type}(p:Pr):DataW H:=.agg [.lit (.string p.1.data.toList),.lit (.string p.2.data.toList)]
set_option maxRecDepth 100000 in
theorem open_texts {H:Type}{enc:TypeId×Value→H}{W:World}{base:Nat}{spare:Nat→Bool}{held:Bool}{fuel:Nat}{cs:List Value}{x:DataW H×List MemPlace}(h:DataW.trod enc Tryz.prog W base spare held fuel 38 cs=some x) :
  (cs=[.slice none 0 0]∧x.1=.nil)∨∃(a:Addr) (len cap:Nat) (ts:List ByteArray) (sp:List (DataW H)),cs=[.slice (some a) len cap]∧len=ts.length∧x.1=.slice (ts.map sOf) sp ∧
    ∀i,i<ts.length→W.cell? (a.add i)=some (.string (ts.getD i e0)):=by
 rcases Go.Deep.open_slice Tryz.underlying38 h with⟨h0,hx⟩|⟨a,len,cap,m,n,D,Pl,rfl,hb,hl,hm,hmm,rfl,hx⟩
 ·exact .inl ⟨h0,by rw[hx]⟩
 right
 have hlm:len≤m:=by rw[hmm];split<;>omega
 have each:∀i,i<len→∃s:ByteArray,W.cell? (a.add i)=some (.string s)∧D i=sOf s:=by
  intro i hi
  obtain⟨cs', h1,h2⟩:=hx i (by omega)
  rw[cellsS] at h1
  obtain⟨_,hlen,hcell⟩:=World.cells?_some h1
  match cs', hlen with
  | [v0],_ =>
    obtain⟨s,hs0,hs1,_⟩:=DataW.trod_string Tryz.underlying9 h2
    have e0:=hcell 0 (by omega)
    rw[Go.Deep.add_add] at e0
    simp only[List.cons.injEq,and_true] at hs0
    subst hs0
    refine⟨s,by simpa using e0,?_⟩
    have hs2:D i=DataW.lit (.string s.data.toList)∧Pl i=[]:=by simpa using hs1
    exact hs2.1
 obtain⟨q,hq⟩:=Go.Deep.choose_lt each
 refine⟨a,len,cap,(List.range len).map q,(List.range (m - len)).map (fun j=>D (len+j)),rfl,by rw[List.length_map,List.length_range],?_,fun i hi=>?_⟩
 ·show DataW.slice _ _=DataW.slice _ _
  rw[List.map_map]
  congr 1
  exact List.map_congr_left (fun i hi=>(hq i (List.mem_range.1 hi)).2)
 ·have hi2:i<len:=by simpa using hi
  have e:((List.range len).map q).getD i e0=q i:=by simp[List.getD_eq_getElem?_getD,hi2]
  rw[e]
  exact (hq i hi2).1
set_option maxRecDepth 100000 in
theorem open_pairs {H:Type}{enc:TypeId×Value→H}{W:World}{base:Nat}{spare:Nat→Bool}{held:Bool}{fuel:Nat}{cs:List Value}{x:DataW H×List MemPlace}(h:DataW.trod enc Tryz.prog W base spare held fuel 27 cs=some x) :
  (cs=[.slice none 0 0]∧x.1=.nil)∨∃(a:Addr) (len cap:Nat) (ps:List Pr) (sp:List (DataW H)),cs=[.slice (some a) len cap]∧len=ps.length∧x.1=.slice (ps.map pOf) sp ∧
    ∀i,i<ps.length→W.cell? (a.add (i*2))=some (.string (ps.getD i pr0).1)∧W.cell? (a.add (i*2+1))=some (.string (ps.getD i pr0).2):=by
 rcases Go.Deep.open_slice Tryz.underlying27 h with⟨h0,hx⟩|⟨a,len,cap,m,n,D,Pl,rfl,hb,hl,hm,hmm,rfl,hx⟩
 ·exact .inl ⟨h0,by rw[hx]⟩
 right
 have hlm:len≤m:=by rw[hmm];split<;>omega
 have each:∀i,i<len→∃p:Pr,W.cell? (a.add (i*2))=some (.string p.1)∧W.cell? (a.add (i*2+1))=some (.string p.2)∧D i=pOf p:=by
  intro i hi
  obtain⟨cs', h1,h2⟩:=hx i (by omega)
  rw[cellsP] at h1
  obtain⟨_,hlen,hcell⟩:=World.cells?_some h1
  obtain⟨xs,k,hk,hxy,_,hxl,hf⟩:=DataW.trod_struct Tryz.underlying33 h2
  match xs,hxl,cs', hlen with
  | [y0,y1],_,[v0,v1],_ =>
    have g0:=hf 0 _ rfl
    have g1:=hf 1 _ rfl
    simp[cellsS] at g0 g1
    obtain⟨s,hs0,hs1,_⟩:=DataW.trod_string Tryz.underlying9 g0
    obtain⟨s', hs0', hs1', _⟩:=DataW.trod_string Tryz.underlying9 g1
    have e0:=hcell 0 (by omega)
    have e1:=hcell 1 (by omega)
    rw[Go.Deep.add_add] at e0 e1
    simp only[List.cons.injEq,and_true] at hs0 hs0'
    subst hs0;subst hs0'
    simp only[Prod.mk.injEq] at hxy
    refine⟨(s,s'),by simpa using e0,by simpa using e1,?_⟩
    rw[hxy.1]
    simp[pOf,hs1,hs1']
 obtain⟨q,hq⟩:=Go.Deep.choose_lt each
 refine⟨a,len,cap,(List.range len).map q,(List.range (m - len)).map (fun j=>D (len+j)),rfl,by rw[List.length_map,List.length_range],?_,fun i hi=>?_⟩
 ·show DataW.slice _ _=DataW.slice _ _
  rw[List.map_map]
  congr 1
  exact List.map_congr_left (fun i hi=>(hq i (List.mem_range.1 hi)).2.2)
 ·have hi2:i<len:=by simpa using hi
  have e:((List.range len).map q).getD i pr0=q i:=by simp[List.getD_eq_getElem?_getD,hi2]
  rw[e]
  obtain⟨h1,h2,_⟩:=hq i hi2
  exact⟨h1,h2⟩
theorem prs_of {W:World}{a:Addr}{ps:List Pr}(h:∀i,i<ps.length→W.cell? (a.add (i*2))=some (.string (ps.getD i pr0).1)∧W.cell? (a.add (i*2+1))=some (.string (ps.getD i pr0).2)):Prs W (some a) ps:=by
 intro k hk
 obtain⟨b,off,spot⟩:=a
 have hspot:spot=none:=by simpa[Addr.add] using World.cell?_spot (h 0 (by omega)).1
 subst hspot
 obtain⟨h1,h2⟩:=h k hk
 rw[addr_add] at h1 h2
 exact⟨b,off,rfl,h1,h2⟩
noncomputable def fill0:Obj→Obj
 | .cells _ t frozen=>.cells (rcL.map fun z=>Value.int .u64 z).toArray t frozen
 | o=>o
noncomputable def fill1:Obj→Obj
 | .cells _ t frozen=>.cells (tuL.map fun z=>Value.int .i64 z).toArray t frozen
 | o=>o
noncomputable def laidWorld (os:Os):World :=
 { World.holding Tryz.prog os ⟨#[],#[],[]⟩ with heap:=((World.holding Tryz.prog os ⟨#[],#[],[]⟩).heap.modify 0 fill0).modify 1 fill1 }
end Go.Proofs.YthdjmldddjljfaaGreatDoor
