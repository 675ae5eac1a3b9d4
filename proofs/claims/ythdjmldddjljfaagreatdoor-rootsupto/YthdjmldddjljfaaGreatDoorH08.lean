/-
  OUR OWN.
-/
import Derived.Test.YthdjmldddjljfaaGreatDoorH07
import Derived.Laws.BytesArg
set_option maxHeartbeats 8000000
set_option maxRecDepth 20000
namespace Go.Proofs.YthdjmldddjljfaaGreatDoor
open Go.RowKit
def codeOf (leaf:Bool)(zs:List Int):ByteArray:=strOfNums (pairUp (halvesOf leaf zs))
theorem isP_len {zs:List Int}(h:isP zs=true):zs.length≤128:=by simp[isP] at h;exact h.1
theorem isP_nib {zs:List Int}(h:isP zs=true):∀j,j<zs.length→0≤zs.getD j 0∧zs.getD j 0≤15:=by
 intro j hj
 simp[isP] at h
 have:=h.2 zs[j] (List.getElem_mem hj)
 simpa[nib,List.getD_eq_getElem?_getD,hj] using this
theorem halvesOf_nib {leaf:Bool}{zs:List Int}(h:∀j,j<zs.length→0≤zs.getD j 0∧zs.getD j 0≤15):∀j,j<(halvesOf leaf zs).length→0≤(halvesOf leaf zs).getD j 0∧(halvesOf leaf zs).getD j 0≤15:=by
 intro j hj
 have hm:0≤mk leaf∧mk leaf≤2:=by cases leaf<;>simp[mk]
 by_cases ho:zs.length % 2=1
 ·rw[halvesOf_odd ho] at hj ⊢
  cases j with
  | zero=>simp;omega
  | succ j=>simpa using h j (by simpa using hj)
 ·rw[halvesOf_even (by omega)] at hj ⊢
  match j with
  | 0=>simp;omega
  | 1=>simp
  | j+2=>simpa using h j (by simpa using hj)
theorem withMark_any (ao:Option Addr)(cap:Nat)(zs:List Int)(w:World)(leaf:Bool)(hl:zs.length≤128)(hc:Ints w ao zs)(hnil:ao=none→cap=0) :
  Calls Tryz.prog 223 #[.slice ao zs.length cap,.bool leaf] w fun e w' => ∃g c,e=.returned (.slice (some ⟨g,0,none⟩) (2 * (zs.length / 2+1)) c) ∧
   Ints w' (some ⟨g,0,none⟩) (halvesOf leaf zs)∧Below w.heap.size w w' := by
 by_cases ho:zs.length % 2=1
 ·refine (withMark_odd ao cap zs w leaf hl (by omega) hc hnil).mono ?_
  rintro e w' ⟨v,rfl,hown,hb⟩
  obtain⟨g,c,rfl,_,_⟩:=hown.form (by omega)
  exact⟨g,c,by rw[show 2 * (zs.length / 2+1)=1+zs.length from by omega],Ints.own hown,hb⟩
 ·refine (withMark_even ao cap zs w leaf hl (by omega) hc hnil).mono ?_
  rintro e w' ⟨v,rfl,hown,hb⟩
  obtain⟨g,c,rfl,_,_⟩:=hown.form (by omega)
  exact⟨g,c,by rw[show 2 * (zs.length / 2+1)=2+zs.length from by omega],Ints.own hown,hb⟩
theorem pPack_good (ao:Option Addr)(cap:Nat)(zs:List Int)(leaf:Bool)(w:World)(hc:Ints w ao zs)(hnil:ao=none→cap=0)(h:isP zs=true) :
  Calls Tryz.prog 218 #[.slice ao zs.length cap,.bool leaf] w fun e w' => e=.returned (.tuple #[.string (codeOf leaf zs),.int .i64 0])∧Below w.heap.size w w' := by
 have hl:=isP_len h
 have hnib:=hide (halvesOf_nib (leaf:=leaf) (isP_nib h))
 go_enter Tryz.func218,Tryz.ntmps218
 go_wp2_with fail
 refine (isPath_short ao cap zs w hl hc).mono ?_
 rintro e w' ⟨rfl,rfl⟩
 go_wp2_with fail
 refine (withMark_any ao cap zs _ leaf hl hc hnil).mono ?_
 rintro e w1 ⟨g,c,rfl,hi1,hb1⟩
 go_wp2_with fail
 refine (joined_any (some ⟨g,0,none⟩) c (zs.length / 2+1) (halvesOf leaf zs) w1 (halvesOf_length _ _) (by omega) hi1 hnib.out).mono ?_
 rintro e w2 ⟨rfl,A,m,rfl,rfl⟩
 have hpl:=pairUp_length (zs.length / 2+1) (halvesOf leaf zs) (halvesOf_length _ _)
 have hcv:=run_convert_bytes_arg (P:=Tryz.prog) ((w1.alloc (.cells ((pairUp (halvesOf leaf zs)).map (Value.int .u8)).toArray 5)).drewN m) 144 5 Tryz.underlying144 Tryz.underlying5 w1.heap.size 0 (zs.length / 2+1) (zs.length / 2+1) (pairUp (halvesOf leaf zs)) hpl (by
  intro i hi
  have:=World.cell?_alloc_new (w:=w1) ((pairUp (halvesOf leaf zs)).map (Value.int .u8)).toArray 5 i
  rw[Nat.zero_add,World.cell?_drewN,this]
  simp[List.getD_eq_getElem?_getD,hpl,hi]) 9 Tryz.underlying9
 clear hpl
 go_wp2
 go_ret2
 refine⟨rfl,?_⟩
 exact (hb1.trans ((below_alloc w1 _).mono hb1.size)).trans ⟨rfl,rfl,rfl,Nat.le_refl _,fun _ _=>rfl⟩
end Go.Proofs.YthdjmldddjljfaaGreatDoor
