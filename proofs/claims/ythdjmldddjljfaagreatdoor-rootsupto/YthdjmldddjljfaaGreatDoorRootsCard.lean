/-
  OUR OWN.
-/
import Derived.Test.YthdjmldddjljfaaGreatDoorH42
import Derived.Test.YthdjmldddjljfaaGreatDoorH41
set_option maxHeartbeats 8000000
set_option maxRecDepth 20000
namespace Go.Proofs.YthdjmldddjljfaaGreatDoor.roots
open Go.ChangeShapes Go.WideShapes Go.ChangeAt Go.RowKit
open Go.ChangeMaps (open_string shut_string)
theorem rcTab {W : World} (h : laidMetH Tryz.prog Rows.rootsUptoRow.laid W) : Lib.TabIs Tryz.prog W "canopy/keccak.roundConstants" .u64 rcL :=
 Lib.tabIs_of_head (rest := [("canopy/keccak.turns", Rows.laid_canopy_keccak_turns)]) gRc gRcType Tryz.underlying236 Tryz.underlying156 cellsU cellsRc h
theorem tuTab {W : World} (h : laidMetH Tryz.prog Rows.rootsUptoRow.laid W) : Lib.TabIs Tryz.prog W "canopy/keccak.turns" .i64 tuL :=
 Lib.tabIs_of_head (rest:=[]) gTu gTuType Tryz.underlying255 Tryz.underlying3 cellsI cellsTu
  (laidMet.tail (P := Tryz.prog) (x := ("canopy/keccak.roundConstants", Rows.laid_canopy_keccak_roundConstants)) (r := [("canopy/keccak.turns", Rows.laid_canopy_keccak_turns)]) h)
theorem tabs {W:World}(h:laidMetH Tryz.prog Rows.rootsUptoRow.laid W):Tabs W where
 rcs:=fun j hj=>by rw[←rc_at j hj];exact (rcTab h).cell gRc j hj
 tus:=fun j hj=>by rw[←tu_at j hj];exact (tuTab h).cell gTu j hj
theorem bulk_pairs {H:Type}(ps:List Pr):ps.length≤Rows.uptoBulkAll (ps.map (pOf (H:=H))):=by
 induction ps with
 | nil=>simp
 | cons p r ih =>
   simp only[List.map_cons,Rows.uptoBulkAll,List.length_cons,pOf,Rows.uptoBulk]
   omega
set_option maxRecDepth 100000 in
theorem contract (H:Type)(enc:TypeId×Value→H)(W:World)(base:Nat)(args:Array Value)(ds gs:List (DataW H))(before:List MemPlace)
  (hval:∀(j:Nat) t v,Tryz.f4.params[j]? = some t→args[j]? = some v→Value.okWide Tryz.prog W .any base t v)
  (hW:DataW.Whole enc Tryz.prog Tryz.f4.params.toList Rows.rootsSpec.vars false W args.toList ds gs before) (hL:laidMetH Tryz.prog Rows.rootsUptoRow.laid W)
  (hk:Rows.uptoSmall H (ds++gs)=true) :
  Calls Tryz.prog 4 args W fun e W' => ∃v,e=.returned v∧Rows.rootsSpec.post enc Tryz.prog Tryz.f4 false true false false W args v W' := by
 have hW' := hW
 obtain⟨p,q,hA0,hV,rfl,hfz,hnd⟩:=hW
 have hA:DataW.TrodAll enc Tryz.prog W 0 (fun _=>true) true Tryz.f4.params.toList args.toList ds p:=hA0
 rw[Tryz.params4] at hA hval
 obtain⟨v0,vs0,d0,ds0,p0,q0,hargs,rfl,rfl,h0,r0⟩:=trodAll_cons hA
 obtain⟨rfl,rfl,rfl⟩:=trodAll_nil r0
 obtain rfl:args=#[v0]:=by cases args;simp_all
 obtain⟨rfl,rfl⟩:=trodVars_none hV
 obtain⟨a0,len0,cap0,rfl⟩:=okWide_slice Tryz.underlying27 (hval 0 27 v0 rfl rfl)
 have k0:=h0
 have lt0:∀x∈p0,x.block<W.heap.size:=by obtain⟨m,hm⟩:=k0;exact DataW.trod_lt m _ _ _ hm
 simp only[List.append_nil] at hk
 have hbk:Rows.uptoBulk d0≤1048576:=by
  have h:Rows.uptoBulkAll [d0]≤1048576:=of_decide_eq_true hk
  simp only[Rows.uptoBulkAll] at h
  omega
 obtain⟨ps,hlen,hn,hps⟩:∃ps:List Pr,len0=ps.length∧ps.length≤10000000∧Prs W a0 ps:=by
  obtain⟨fuel,hf⟩:=h0
  rcases open_pairs hf with⟨hcs,_⟩|⟨x,l,c,ps,sp,hcs,hl,hx,hcell⟩
  ·simp[Value.cells] at hcs
   obtain⟨rfl,rfl,rfl⟩:=hcs
   exact⟨[],rfl,Nat.zero_le _,fun k hk=>by simp at hk⟩
  ·simp[Value.cells] at hcs
   obtain⟨rfl,rfl,rfl⟩:=hcs
   simp only at hx
   rw[hx] at hbk
   simp only[Rows.uptoBulk] at hbk
   have:=bulk_pairs (H:=H) ps
   exact⟨ps,hl,by omega,prs_of hcell⟩
 subst hlen
 have hT:=tabs hL
 have h2:2≤W.heap.size:=by
  have:=World.block_lt_of_cell? W _ (hT.tus 0 (by decide))
  exact this
 clear hA0
 refine (roots_walk a0 cap0 ps W hT h2 hps hn).mono fun e W' ⟨he,bel⟩=>?_
 subst he
 exact⟨_,rfl,_,_,_,[],_,[],hW', trodAll_mk1 (shut_bool Tryz.underlying4 _),(trodAll_cons_mk (Below.trod laidOut (by kernel_rfl) (of_decide_eq_true (by kernel_rfl)) k0 bel lt0) trodAll_mk0),rfl,bel.frame _,fun h=>by cases h⟩
theorem laid_met (os:Os):laidMet Tryz.prog Rows.rootsUptoRow.laid ((laidWorld os).forCall (fun _ _=>0) ⟨#[],#[.slice none 0 0],[]⟩).memory :=
 laidMet_of_run' 40 (by kernel_rfl) (by kernel_rfl)
theorem reads (os:Os){H:Type}(enc:TypeId×Value→H):∃places,DataW.whole enc Tryz.prog ((laidWorld os).forCall (fun _ _=>0) ⟨#[],#[.slice none 0 0],[]⟩).memory Tryz.f4.params.toList Rows.rootsSpec.vars false #[Value.slice none 0 0].toList 8=some ([.nil],[],places) :=
 ⟨[],by kernel_rfl⟩
set_option maxRecDepth 100000 in
theorem lifted (os:Os)(started:os.Started)(H:Type)(enc:TypeId×Value→H)(F:Stop.Interp) :
  ReturnsInHanded {} Tryz.checked os 4 .any ((Rows.OpenSpec.upto Rows.rootsSpec).preRow enc Tryz.prog Tryz.f4 Rows.rootsUptoRow.domain false Rows.rootsUptoRow.laid) (((Rows.OpenSpec.upto Rows.rootsSpec).at F).post enc Tryz.prog Tryz.f4 false true false false):=by
 obtain⟨places,hx⟩:=reads os enc
 refine returnsInHanded_of_row (C:=Tryz.checked) (s:=Rows.OpenSpec.upto Rows.rootsSpec) own started (by kernel_rfl) Tryz.func4
  (witness_row_at (enc:=enc) (C:=Tryz.checked) false (laidWorld os) #[.slice none 0 0] rfl (by kernel_rfl) (by kernel_rfl) (by kernel_rfl)
    (OpenSpec.preRow_of_cond 8 hx (by kernel_rfl) (fun k hk=>by obtain rfl:Rows.uptoSmall=k:=Option.some.inj hk;kernel_rfl) (by kernel_rfl) (laid_met os))) ?_
 intro W base args ds gs before hval hW _ hcond hsz hL _ _
 exact contract H enc W base args ds gs before hval hW hL (hcond _ rfl)
theorem said:Rows.RootsUptoSaid :=
 OpenClaim.holds_of_cond 4 Tryz.f4 rfl rfl rfl rfl rfl rfl rfl ⟨rfl,rfl,rfl,rfl,rfl⟩ rfl rfl rfl rfl rfl (by kernel_rfl) Tryz.func4 (by kernel_rfl)
  (of_decide_eq_true (by kernel_rfl)) (by unfold Func.isWrapper;first|(rw[if_pos (by decide +kernel)];kernel_rfl)|(rw[if_neg (by decide +kernel)];exact⟨rfl,rfl⟩))
  (fun os started H enc _ F=>by rw[OpenClaim.pre_eq_preRow];exact lifted os started H enc F)
theorem plain (f : FuncId) (fn : Func) (hf : Tryz.pinned.checked.prog.funcNamed "canopy/canopylaw.Roots" = some f) (hfn : Tryz.pinned.checked.prog.funcs[f]? = some fn) :
  true=Tryz.pinned.checked.prog.looks []∧∀(j:Nat) t,fn.params[j]? = some t→Tryz.pinned.checked.prog.wantsStandIn t=false:=by
 obtain rfl : f = 4 := Option.some.inj ((show Tryz.prog.funcNamed "canopy/canopylaw.Roots" = some 4 by kernel_rfl).symm.trans hf) |>.symm
 obtain rfl:fn=Tryz.f4:=(Option.some.inj (Tryz.func4.symm.trans hfn)).symm
 refine⟨by kernel_rfl,fun j t ht=>?_⟩
 rw[Tryz.params4] at ht
 have hm:=Array.mem_of_getElem? ht
 obtain rfl:t=27:=by simpa using hm
 exact (show Tryz.prog.wantsStandIn 27=false by kernel_rfl)
theorem card:Rows.RootsUptoCardSaid :=
 Claim7.holds_tied_plain_at .later [] _ _ _ _ said (fun _ h=>by cases h) (by kernel_rfl) (fun _ h=>by cases h) rootsUpto_row_tie rfl ⟨rfl,rfl⟩ (by kernel_rfl) rfl plain (by kernel_rfl)
end Go.Proofs.YthdjmldddjljfaaGreatDoor.roots
namespace Go.Proofs.YthdjmldddjljfaaGreatDoor
theorem rootsUptoCard_holds:Rows.RootsUptoCardSaid:=roots.card
end Go.Proofs.YthdjmldddjljfaaGreatDoor
