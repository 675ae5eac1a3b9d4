/-
  OUR OWN: OrdersCard.
-/
import Derived.Test.YtgepjjebjhidiaaGreatDoorG43
import Derived.Test.YtgepjjebjhidiaaGreatDoorG42
namespace Go.Proofs.YtgepjjebjhidiaaGreatDoor.orders
open Go.ChangeShapes Go.WideShapes Go.ChangeAt Go.RowKit
open Go.ChangeMaps (open_string shut_string)

theorem bytesI : Tryz.prog.bytesOf 3 = 8 := by kernel_rfl
/-- a slice of numbers among the arguments: what the walk asks -/
theorem ints_in {H : Type} {enc : TypeId × Value → H} {W : World} {base : Nat} {tys : List TypeId} {ds : List (DataW H)} {j : Nat} {ao : Option Addr} {len cap : Nat} {d : DataW H} {pl : List MemPlace}
    (hsz : (DataW.weightsEach Tryz.prog tys ds).all (· ≤ reachBytes) = true) (hj : tys[j]? = some 39) (hd : ds[j]? = some d) (h : DataW.Trod enc Tryz.prog W base (fun _ => true) true 39 (.slice ao len cap) d pl) :
    ∃ zs : List Int, len = zs.length ∧ zs.length ≤ 8796093021952000 ∧ Ords W ao zs ∧ ∀ z ∈ zs, -9223372036854775808 ≤ z ∧ z ≤ 9223372036854775807 := by
  obtain ⟨fuel, hf⟩ := h
  rcases open_ints Tryz.underlying39 Tryz.underlying3 cellsI hf with ⟨hcs, _⟩ | ⟨x, l, c, zs, hcs, _, hl, hm, hz, hx, hcell, hwz⟩
  · simp [Value.cells] at hcs
    obtain ⟨rfl, rfl, rfl⟩ := hcs
    exact ⟨[], rfl, Nat.zero_le _, fun k hk => by simp at hk, fun z hz => by simp at hz⟩
  · simp [Value.cells] at hcs
    obtain ⟨rfl, rfl, rfl⟩ := hcs
    have hzl : zs.length = cap := by simpa using hz
    have ht : (zs.take len).length = len := by rw [List.length_take]; omega
    simp only [Prod.mk.injEq] at hx
    rw [hx.1] at hd
    have hw1 := sized_slice hsz (j := j) (t := 39) (e := 3) hj hd Tryz.underlying39
    have hlits : (lits (H := H) .i64 (zs.take len)).length = len := by unfold lits; rw [List.length_map]; exact ht
    rw [bytesI, reach_eq, hlits] at hw1
    refine ⟨zs.take len, ht.symm, by omega, fun i hi => ?_, fun z hz => ?_⟩
    · rw [ht] at hi
      have h1 := hcell i (by omega)
      have hspot : x.spot = none := by simpa [Addr.add] using World.cell?_spot (hcell 0 (by omega))
      obtain ⟨b, off, sp⟩ := x
      obtain rfl : sp = none := hspot
      rw [addr_add] at h1
      refine ⟨b, off, rfl, ?_⟩
      rw [h1]
      simp [List.getD_eq_getElem?_getD, hi]
    · have h := hwz z (List.mem_of_mem_take hz)
      simp [Lit.wf, IntKind.min, IntKind.max, IntKind.bits, IntKind.signed] at h
      exact h
theorem rcTab {W : World} (h : laidMetH Tryz.prog Rows.ordersRow.laid W) : Lib.TabIs Tryz.prog W "canopy/keccak.roundConstants" .u64 rcL :=
  Lib.tabIs_of_head (rest := [("canopy/keccak.turns", Rows.laid_canopy_keccak_turns)]) gRc gRcType Tryz.underlying146 Tryz.underlying87 cellsU cellsRc h
theorem tuTab {W : World} (h : laidMetH Tryz.prog Rows.ordersRow.laid W) : Lib.TabIs Tryz.prog W "canopy/keccak.turns" .i64 tuL :=
  Lib.tabIs_of_head (rest := []) gTu gTuType Tryz.underlying163 Tryz.underlying3 cellsI cellsTu
    (laidMet.tail (P := Tryz.prog) (x := ("canopy/keccak.roundConstants", Rows.laid_canopy_keccak_roundConstants)) (r := [("canopy/keccak.turns", Rows.laid_canopy_keccak_turns)]) h)
/-- the two tables, as the walks ask for them -/
theorem tabs {W : World} (h : laidMetH Tryz.prog Rows.ordersRow.laid W) : Tabs W where
  rcs := fun j hj => by rw [← rc_at j hj]; exact (rcTab h).cell gRc j hj
  tus := fun j hj => by rw [← tu_at j hj]; exact (tuTab h).cell gTu j hj

set_option maxRecDepth 100000 in
theorem contract (H : Type) (enc : TypeId × Value → H) (W : World) (base : Nat) (args : Array Value) (ds gs : List (DataW H)) (before : List MemPlace)
    (hval : ∀ (j : Nat) t v, Tryz.f4.params[j]? = some t → args[j]? = some v → Value.okWide Tryz.prog W .any base t v)
    (hW : DataW.Whole enc Tryz.prog Tryz.f4.params.toList Rows.ordersSpec.vars false W args.toList ds gs before) (hL : laidMetH Tryz.prog Rows.ordersRow.laid W)
    (hsz : (DataW.weightsEach Tryz.prog (Tryz.f4.params.toList ++ []) (ds ++ gs)).all (· ≤ reachBytes) = true) :
    Calls Tryz.prog 4 args W fun e W' => ∃ v, e = .returned v ∧ Rows.ordersSpec.post enc Tryz.prog Tryz.f4 false true false false W args v W' := by
  have hW' := hW
  obtain ⟨p, q, hA0, hV, rfl, hfz, hnd⟩ := hW
  have hA : DataW.TrodAll enc Tryz.prog W 0 (fun _ => true) true Tryz.f4.params.toList args.toList ds p := hA0
  rw [Tryz.params4] at hA hval hsz
  obtain ⟨v0, vs0, d0, ds0, p0, q0, hargs, rfl, rfl, h0, r0⟩ := trodAll_cons hA
  obtain ⟨v1, vs1, d1, ds1, p1, q1, rfl, rfl, rfl, h1, r1⟩ := trodAll_cons r0
  obtain ⟨v2, vs2, d2, ds2, p2, q2, rfl, rfl, rfl, h2, r2⟩ := trodAll_cons r1
  obtain ⟨rfl, rfl, rfl⟩ := trodAll_nil r2
  obtain rfl : args = #[v0, v1, v2] := by cases args; simp_all
  obtain ⟨rfl, rfl⟩ := trodVars_none hV
  obtain ⟨a0, len0, cap0, rfl⟩ := okWide_slice Tryz.underlying22 (hval 0 22 v0 rfl rfl)
  obtain ⟨a1, len1, cap1, rfl⟩ := okWide_slice Tryz.underlying23 (hval 1 23 v1 rfl rfl)
  obtain ⟨a2, len2, cap2, rfl⟩ := okWide_slice Tryz.underlying39 (hval 2 39 v2 rfl rfl)
  have k0 := h0
  have k1 := h1
  have k2 := h2
  have lt0 : ∀ x ∈ p0, x.block < W.heap.size := by obtain ⟨m, hm⟩ := k0; exact DataW.trod_lt m _ _ _ hm
  have lt1 : ∀ x ∈ p1, x.block < W.heap.size := by obtain ⟨m, hm⟩ := k1; exact DataW.trod_lt m _ _ _ hm
  have lt2 : ∀ x ∈ p2, x.block < W.heap.size := by obtain ⟨m, hm⟩ := k2; exact DataW.trod_lt m _ _ _ hm
  obtain ⟨ps, hl0, hn0, hps, hpb⟩ := pairs_in hsz (j := 0) rfl rfl h0
  obtain ⟨ts, hl1, hn1, hts, htb⟩ := texts_in hsz (j := 1) rfl rfl h1
  obtain ⟨zs, hl2, hn2, hzs, hzb⟩ := ints_in hsz (j := 2) rfl rfl h2
  subst hl0 hl1 hl2
  have hT := tabs hL
  have h3 : 3 ≤ W.heap.size := by
    have := World.block_lt_of_cell? W _ (hT.tus 0 (by decide))
    exact this
  clear hA0
  refine (orders_walk a0 a1 a2 cap0 cap1 cap2 ps ts zs W ⟨hT, h3⟩ h3 hps hn0 hpb hts hn1 htb hzs hn2 hzb).mono fun e W' ⟨he, bel⟩ => ?_
  subst he
  exact ⟨_, rfl, _, _, _, [], _, [], hW', trodAll_mk1 (shut_bool Tryz.underlying4 _), (trodAll_cons_mk (Below.trod laidOut (by kernel_rfl) (of_decide_eq_true (by kernel_rfl)) k0 bel lt0) (trodAll_cons_mk (Below.trod laidOut (by kernel_rfl) (of_decide_eq_true (by kernel_rfl)) k1 bel lt1) (trodAll_cons_mk (Below.trod laidOut (by kernel_rfl) (of_decide_eq_true (by kernel_rfl)) k2 bel lt2) trodAll_mk0))), rfl, bel.frame _, fun h => by cases h⟩

theorem laid_met (os : Os) : laidMet Tryz.prog Rows.ordersRow.laid ((laidWorld os).forCall (fun _ _ => 0) ⟨#[], #[.slice none 0 0, .slice none 0 0, .slice none 0 0], []⟩).memory :=
  laidMet_of_run' 40 (by kernel_rfl) (by kernel_rfl)
theorem reads (os : Os) {H : Type} (enc : TypeId × Value → H) : ∃ places, DataW.whole enc Tryz.prog ((laidWorld os).forCall (fun _ _ => 0) ⟨#[], #[.slice none 0 0, .slice none 0 0, .slice none 0 0], []⟩).memory Tryz.f4.params.toList Rows.ordersSpec.vars false #[Value.slice none 0 0, .slice none 0 0, .slice none 0 0].toList 8 = some ([.nil, .nil, .nil], [], places) :=
  ⟨[], by kernel_rfl⟩

set_option maxRecDepth 100000 in
theorem lifted (os : Os) (started : os.Started) (H : Type) (enc : TypeId × Value → H) (F : Stop.Interp) :
    ReturnsInHanded {} Tryz.checked os 4 .any ((OpenSpec.ofChange Rows.ordersSpec).preRow enc Tryz.prog Tryz.f4 Rows.ordersRow.domain false Rows.ordersRow.laid) (((OpenSpec.ofChange Rows.ordersSpec).at F).post enc Tryz.prog Tryz.f4 false true false false) := by
  obtain ⟨places, hx⟩ := reads os enc
  refine returnsInHanded_of_row (C := Tryz.checked) (s := OpenSpec.ofChange Rows.ordersSpec) own started (by kernel_rfl) Tryz.func4
    (witness_row_at (enc := enc) (C := Tryz.checked) false (laidWorld os) #[.slice none 0 0, .slice none 0 0, .slice none 0 0] rfl (by kernel_rfl) (by kernel_rfl) (by kernel_rfl)
      (OpenSpec.preRow_of_cond 8 hx (by kernel_rfl) (fun k hk => by cases hk) (by kernel_rfl) (laid_met os))) ?_
  intro W base args ds gs before hval hW _ _ hsz hL _ _
  exact contract H enc W base args ds gs before hval hW hL hsz

theorem said : Rows.OrdersSaid :=
  OpenClaim.holds_of_cond 4 Tryz.f4 rfl rfl rfl rfl rfl rfl rfl ⟨rfl, rfl, rfl, rfl, rfl⟩ rfl rfl rfl rfl rfl (by kernel_rfl) Tryz.func4 (by kernel_rfl)
    (of_decide_eq_true (by kernel_rfl)) (by unfold Func.isWrapper; first | (rw [if_pos (by decide +kernel)]; kernel_rfl) | (rw [if_neg (by decide +kernel)]; exact ⟨rfl, rfl⟩))
    (fun os started H enc _ F => by rw [OpenClaim.pre_eq_preRow]; exact lifted os started H enc F)

theorem plain (f : FuncId) (fn : Func) (hf : Tryz.pinned.checked.prog.funcNamed "canopy/canopykeep.Orders" = some f) (hfn : Tryz.pinned.checked.prog.funcs[f]? = some fn) :
    true = Tryz.pinned.checked.prog.looks [] ∧ ∀ (j : Nat) t, fn.params[j]? = some t → Tryz.pinned.checked.prog.wantsStandIn t = false := by
  obtain rfl : f = 4 := Option.some.inj ((show Tryz.prog.funcNamed "canopy/canopykeep.Orders" = some 4 by kernel_rfl).symm.trans hf) |>.symm
  obtain rfl : fn = Tryz.f4 := (Option.some.inj (Tryz.func4.symm.trans hfn)).symm
  refine ⟨by kernel_rfl, fun j t ht => ?_⟩
  rw [Tryz.params4] at ht
  have hm := Array.mem_of_getElem? ht
  have : t = 22 ∨ t = 23 ∨ t = 39 := by simpa using hm
  rcases this with rfl | rfl | rfl
  · exact (show Tryz.prog.wantsStandIn 22 = false by kernel_rfl)
  · exact (show Tryz.prog.wantsStandIn 23 = false by kernel_rfl)
  · exact (show Tryz.prog.wantsStandIn 39 = false by kernel_rfl)

theorem card : Rows.OrdersCardSaid :=
  Claim7.holds_tied_plain_at .later [] _ _ _ _ said (fun _ h => by cases h) (by kernel_rfl) (fun _ h => by cases h) orders_row_tie rfl ⟨rfl, rfl⟩ (by kernel_rfl) rfl plain (by kernel_rfl)
end Go.Proofs.YtgepjjebjhidiaaGreatDoor.orders
namespace Go.Proofs.YtgepjjebjhidiaaGreatDoor
theorem ordersCard_holds : Rows.OrdersCardSaid := orders.card
end Go.Proofs.YtgepjjebjhidiaaGreatDoor
