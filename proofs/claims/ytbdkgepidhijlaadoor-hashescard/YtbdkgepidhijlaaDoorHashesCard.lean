/-
  OUR OWN: the law Hashes: its row's statement, and its card.
-/
import Derived.Test.YtbdkgepidhijlaaDoorCards
import Derived.Test.YtbdkgepidhijlaaDoorTie
import Derived.Test.YtbdkgepidhijlaaDoorKecO
import Derived.WalkKit
import Derived.ProofKit
import Derived.OpenShut
import Derived.ShutString
import Derived.ChangeOld
import Derived.Below
import Derived.SizedLaws
import Derived.Deep.DeepHandedRow
import Derived.Lib.LaidTab
import Derived.Stop.LaidErr
namespace Go.Proofs.YtbdkgepidhijlaaDoor.hashes
open Go.ChangeShapes Go.WideShapes Go.ChangeAt Go.RowKit
open Go.ChangeMaps (open_string shut_string)

theorem own : ownKnob Tryd.prog.godebug = none := by kernel_rfl
theorem gRc : Tryd.prog.globalNamed "canopy/keccak.roundConstants" = some 0 := by kernel_rfl
theorem gTu : Tryd.prog.globalNamed "canopy/keccak.turns" = some 1 := by kernel_rfl
theorem gRcType : (Tryd.prog.globals[0]?).map (·.type) = some 39 := by kernel_rfl
theorem gTuType : (Tryd.prog.globals[1]?).map (·.type) = some 41 := by kernel_rfl
theorem cellsRc : Tryd.prog.cellsOf 39 = 24 := by kernel_rfl
theorem cellsTu : Tryd.prog.cellsOf 41 = 25 := by kernel_rfl
theorem cellsU : Tryd.prog.cellsOf 27 = 1 := by kernel_rfl
theorem cellsI : Tryd.prog.cellsOf 3 = 1 := by kernel_rfl

def rcL : List Int := [1, 32898, 9223372036854808714, 9223372039002292224, 32907, 2147483649, 9223372039002292353, 9223372036854808585, 138, 136, 2147516425, 2147483658, 2147516555, 9223372036854775947, 9223372036854808713, 9223372036854808579, 9223372036854808578, 9223372036854775936, 32778, 9223372039002259466, 9223372039002292353, 9223372036854808704, 2147483649, 9223372039002292232]
def tuL : List Int := [0, 1, 62, 28, 27, 36, 44, 6, 55, 20, 3, 10, 43, 25, 39, 41, 45, 15, 21, 8, 18, 2, 61, 56, 14]

theorem rcTab {W : World} (h : laidMetH Tryd.prog Rows.hashesRow.laid W) : Lib.TabIs Tryd.prog W "canopy/keccak.roundConstants" .u64 rcL :=
  Lib.tabIs_of_head (rest := [("canopy/keccak.turns", Rows.laid_canopy_keccak_turns)]) gRc gRcType Tryd.underlying39 Tryd.underlying27 cellsU cellsRc h
theorem tuTab {W : World} (h : laidMetH Tryd.prog Rows.hashesRow.laid W) : Lib.TabIs Tryd.prog W "canopy/keccak.turns" .i64 tuL :=
  Lib.tabIs_of_head (rest := []) gTu gTuType Tryd.underlying41 Tryd.underlying3 cellsI cellsTu
    (laidMet.tail (P := Tryd.prog) (x := ("canopy/keccak.roundConstants", Rows.laid_canopy_keccak_roundConstants)) (r := [("canopy/keccak.turns", Rows.laid_canopy_keccak_turns)]) h)

theorem rc_at (j : Nat) (hj : j < 24) : rcL.getD j 0 = ((rc j : Nat) : Int) := by
  have h : ∀ i : Fin 24, rcL.getD i.val 0 = ((rc i.val : Nat) : Int) := by decide +kernel
  exact h ⟨j, hj⟩
theorem tu_at (j : Nat) (hj : j < 25) : tuL.getD j 0 = ((tu j : Nat) : Int) := by
  have h : ∀ i : Fin 25, tuL.getD i.val 0 = ((tu i.val : Nat) : Int) := by decide +kernel
  exact h ⟨j, hj⟩

/-- the two tables, as the walks ask for them -/
theorem tabs {W : World} (h : laidMetH Tryd.prog Rows.hashesRow.laid W) : Tabs W where
  rcs := fun j hj => by rw [← rc_at j hj]; exact (rcTab h).cell gRc j hj
  tus := fun j hj => by rw [← tu_at j hj]; exact (tuTab h).cell gTu j hj

set_option maxRecDepth 100000 in
theorem contract (H : Type) (enc : TypeId × Value → H) (W : World) (base : Nat) (args : Array Value) (ds gs : List (DataW H)) (before : List MemPlace)
    (hval : ∀ (j : Nat) t v, Tryd.f3.params[j]? = some t → args[j]? = some v → Value.okWide Tryd.prog W .any base t v)
    (hW : DataW.Whole enc Tryd.prog Tryd.f3.params.toList Rows.hashesSpec.vars false W args.toList ds gs before) (hL : laidMetH Tryd.prog Rows.hashesRow.laid W)
    (hsz : (DataW.weightsEach Tryd.prog (Tryd.f3.params.toList ++ []) (ds ++ gs)).all (· ≤ reachBytes) = true) :
    Calls Tryd.prog 3 args W fun e W' => ∃ v, e = .returned v ∧ Rows.hashesSpec.post enc Tryd.prog Tryd.f3 false true false false W args v W' := by
  have hW' := hW
  obtain ⟨p, q, hA0, hV, rfl, hfz, hnd⟩ := hW
  have hA : DataW.TrodAll enc Tryd.prog W 0 (fun _ => true) true Tryd.f3.params.toList args.toList ds p := hA0
  rw [Tryd.params3] at hA hval hsz
  obtain ⟨v0, vs0, d0, ds0, p0, q0, hargs, rfl, rfl, h0, r0⟩ := trodAll_cons hA
  obtain ⟨rfl, rfl, rfl⟩ := trodAll_nil r0
  obtain rfl : args = #[v0] := by cases args; simp_all
  obtain ⟨rfl, rfl⟩ := trodVars_none hV
  obtain ⟨s, rfl, rfl, rfl, w0⟩ := open_string Tryd.underlying9 (hval 0 9 v0 rfl rfl) h0
  have hs : s.size ≤ 140737488351232 := by
    have h := sized_string hsz (j := 0) (t := 9) (bytes := s.data.toList) rfl rfl
    have e : s.data.toList.length = s.size := by rw [Array.length_toList]; rfl
    have hr : reachBytes = 140737488351232 := rfl
    omega
  have hT := tabs hL
  have h2 : 2 ≤ W.heap.size := by
    have := World.block_lt_of_cell? W _ (hT.tus 0 (by decide))
    exact this
  clear hA0
  refine (hashes_walk s W hT h2 hs).mono fun e W' ⟨he, bel⟩ => ?_
  subst he
  exact ⟨_, rfl, _, _, _, [], _, [], hW', trodAll_mk1 (shut_bool Tryd.underlying4 _), trodAll_cons_mk (shut_string Tryd.underlying9 w0) trodAll_mk0, rfl, bel.frame _, fun h => by cases h⟩

/-- a world for the witness: the settled one, the two tables holding what their initialisers lay -/
noncomputable def fill0 : Obj → Obj
  | .cells _ t frozen => .cells (rcL.map fun z => Value.int .u64 z).toArray t frozen
  | o => o
noncomputable def fill1 : Obj → Obj
  | .cells _ t frozen => .cells (tuL.map fun z => Value.int .i64 z).toArray t frozen
  | o => o
noncomputable def laidWorld (os : Os) : World :=
  { World.holding Tryd.prog os ⟨#[], #[], []⟩ with heap := ((World.holding Tryd.prog os ⟨#[], #[], []⟩).heap.modify 0 fill0).modify 1 fill1 }
theorem laid_met (os : Os) : laidMet Tryd.prog Rows.hashesRow.laid ((laidWorld os).forCall (fun _ _ => 0) ⟨#[], #[.string .empty], []⟩).memory :=
  laidMet_of_run' 40 (by kernel_rfl) (by kernel_rfl)
theorem reads (os : Os) {H : Type} (enc : TypeId × Value → H) : ∃ places, DataW.whole enc Tryd.prog ((laidWorld os).forCall (fun _ _ => 0) ⟨#[], #[.string .empty], []⟩).memory Tryd.f3.params.toList Rows.hashesSpec.vars false #[Value.string .empty].toList 8 = some ([.lit (.string [])], [], places) :=
  ⟨[], by kernel_rfl⟩

set_option maxRecDepth 100000 in
theorem lifted (os : Os) (started : os.Started) (H : Type) (enc : TypeId × Value → H) (F : Stop.Interp) :
    ReturnsInHanded {} Tryd.checked os 3 .any ((OpenSpec.ofChange Rows.hashesSpec).preRow enc Tryd.prog Tryd.f3 Rows.hashesRow.domain false Rows.hashesRow.laid) (((OpenSpec.ofChange Rows.hashesSpec).at F).post enc Tryd.prog Tryd.f3 false true false false) := by
  obtain ⟨places, hx⟩ := reads os enc
  refine returnsInHanded_of_row (C := Tryd.checked) (s := OpenSpec.ofChange Rows.hashesSpec) own started (by kernel_rfl) Tryd.func3
    (witness_row_at (enc := enc) (C := Tryd.checked) false (laidWorld os) #[.string .empty] rfl (by kernel_rfl) (by kernel_rfl) (by kernel_rfl)
      (OpenSpec.preRow_of_cond 8 hx (by kernel_rfl) (fun k hk => by cases hk) (by kernel_rfl) (laid_met os))) ?_
  intro W base args ds gs before hval hW _ _ hsz hL _ _
  exact contract H enc W base args ds gs before hval hW hL hsz

theorem said : Rows.HashesSaid :=
  OpenClaim.holds_of_cond 3 Tryd.f3 rfl rfl rfl rfl rfl rfl rfl ⟨rfl, rfl, rfl, rfl, rfl⟩ rfl rfl rfl rfl rfl (by kernel_rfl) Tryd.func3 (by kernel_rfl)
    (of_decide_eq_true (by kernel_rfl)) (by unfold Func.isWrapper; first | (rw [if_pos (by decide +kernel)]; kernel_rfl) | (rw [if_neg (by decide +kernel)]; exact ⟨rfl, rfl⟩))
    (fun os started H enc _ F => by rw [OpenClaim.pre_eq_preRow]; exact lifted os started H enc F)

theorem plain (f : FuncId) (fn : Func) (hf : Tryd.pinned.checked.prog.funcNamed "canopy/canopylaw.Hashes" = some f) (hfn : Tryd.pinned.checked.prog.funcs[f]? = some fn) :
    false = Tryd.pinned.checked.prog.looks [] ∧ ∀ (j : Nat) t, fn.params[j]? = some t → Tryd.pinned.checked.prog.wantsStandIn t = false := by
  obtain rfl : f = 3 := Option.some.inj ((show Tryd.prog.funcNamed "canopy/canopylaw.Hashes" = some 3 by kernel_rfl).symm.trans hf) |>.symm
  obtain rfl : fn = Tryd.f3 := (Option.some.inj (Tryd.func3.symm.trans hfn)).symm
  refine ⟨by kernel_rfl, fun j t ht => ?_⟩
  rw [Tryd.params3] at ht
  obtain rfl : t = 9 := by simpa using Array.mem_of_getElem? ht
  exact (show Tryd.prog.wantsStandIn 9 = false by kernel_rfl)

theorem card : Rows.HashesCardSaid :=
  Claim7.holds_tied_plain_at .later [] _ _ _ _ said (fun _ h => by cases h) (by kernel_rfl) (fun _ h => by cases h) hashes_row_tie rfl ⟨rfl, rfl⟩ (by kernel_rfl) rfl plain (by kernel_rfl)
end Go.Proofs.YtbdkgepidhijlaaDoor.hashes
namespace Go.Proofs.YtbdkgepidhijlaaDoor
theorem hashesCard_holds : Rows.HashesCardSaid := hashes.card
end Go.Proofs.YtbdkgepidhijlaaDoor
