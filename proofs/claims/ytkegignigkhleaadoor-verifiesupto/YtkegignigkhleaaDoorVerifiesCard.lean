/-
  OUR OWN: VerifiesCard.
-/
import Derived.Test.YtkegignigkhleaaDoorCards
import Derived.Test.YtkegignigkhleaaDoorTie
import Derived.Test.YtkegignigkhleaaDoorG36
import Derived.WalkKit
import Derived.ProofKit
import Derived.OpenShut
import Derived.ShutString
import Derived.ChangeOld
import Derived.Below
import Derived.SizedLaws
import Derived.Deep.DeepHandedRow
import Derived.Lib.LaidTab
import Derived.Stop.LaidErr
import Derived.Deep.SlicePairs
namespace Go.Proofs.YtkegignigkhleaaDoor.verifies
open Go.ChangeShapes Go.WideShapes Go.ChangeAt Go.RowKit
open Go.ChangeMaps (open_string shut_string)

theorem own : ownKnob Tryd.prog.godebug = none := by kernel_rfl
theorem laidOut : laidOutB Tryd.prog = true := by kernel_rfl
theorem gRc : Tryd.prog.globalNamed "canopy/keccak.roundConstants" = some 0 := by kernel_rfl
theorem gTu : Tryd.prog.globalNamed "canopy/keccak.turns" = some 1 := by kernel_rfl
theorem gRcType : (Tryd.prog.globals[0]?).map (·.type) = some 120 := by kernel_rfl
theorem gTuType : (Tryd.prog.globals[1]?).map (·.type) = some 150 := by kernel_rfl
theorem cellsRc : Tryd.prog.cellsOf 120 = 24 := by kernel_rfl
theorem cellsTu : Tryd.prog.cellsOf 150 = 25 := by kernel_rfl
theorem cellsU : Tryd.prog.cellsOf 80 = 1 := by kernel_rfl
theorem cellsI : Tryd.prog.cellsOf 3 = 1 := by kernel_rfl
theorem cellsS : Tryd.prog.cellsOf 9 = 1 := by kernel_rfl

def rcL : List Int := [1, 32898, 9223372036854808714, 9223372039002292224, 32907, 2147483649, 9223372039002292353, 9223372036854808585, 138, 136, 2147516425, 2147483658, 2147516555, 9223372036854775947, 9223372036854808713, 9223372036854808579, 9223372036854808578, 9223372036854775936, 32778, 9223372039002259466, 9223372039002292353, 9223372036854808704, 2147483649, 9223372039002292232]
def tuL : List Int := [0, 1, 62, 28, 27, 36, 44, 6, 55, 20, 3, 10, 43, 25, 39, 41, 45, 15, 21, 8, 18, 2, 61, 56, 14]

theorem rcTab {W : World} (h : laidMetH Tryd.prog Rows.verifiesUptoRow.laid W) : Lib.TabIs Tryd.prog W "canopy/keccak.roundConstants" .u64 rcL :=
  Lib.tabIs_of_head (rest := [("canopy/keccak.turns", Rows.laid_canopy_keccak_turns)]) gRc gRcType Tryd.underlying120 Tryd.underlying80 cellsU cellsRc h
theorem tuTab {W : World} (h : laidMetH Tryd.prog Rows.verifiesUptoRow.laid W) : Lib.TabIs Tryd.prog W "canopy/keccak.turns" .i64 tuL :=
  Lib.tabIs_of_head (rest := []) gTu gTuType Tryd.underlying150 Tryd.underlying3 cellsI cellsTu
    (laidMet.tail (P := Tryd.prog) (x := ("canopy/keccak.roundConstants", Rows.laid_canopy_keccak_roundConstants)) (r := [("canopy/keccak.turns", Rows.laid_canopy_keccak_turns)]) h)

theorem rc_at (j : Nat) (hj : j < 24) : rcL.getD j 0 = ((rc j : Nat) : Int) := by
  have h : ∀ i : Fin 24, rcL.getD i.val 0 = ((rc i.val : Nat) : Int) := by decide +kernel
  exact h ⟨j, hj⟩
theorem tu_at (j : Nat) (hj : j < 25) : tuL.getD j 0 = ((tu j : Nat) : Int) := by
  have h : ∀ i : Fin 25, tuL.getD i.val 0 = ((tu i.val : Nat) : Int) := by decide +kernel
  exact h ⟨j, hj⟩

/-- the two tables, as the walks ask for them -/
theorem tabs {W : World} (h : laidMetH Tryd.prog Rows.verifiesUptoRow.laid W) : Tabs W where
  rcs := fun j hj => by rw [← rc_at j hj]; exact (rcTab h).cell gRc j hj
  tus := fun j hj => by rw [← tu_at j hj]; exact (tuTab h).cell gTu j hj

/-- the datum of a text -/
def sOf {H : Type} (s : ByteArray) : DataW H := .lit (.string s.data.toList)
def totB (ts : List ByteArray) : Nat := (ts.map fun t => t.size + 1).sum
theorem bulk_strs {H : Type} (ts : List ByteArray) : Rows.uptoBulkAll (ts.map (sOf (H := H))) = totB ts := by
  induction ts with
  | nil => simp [Rows.uptoBulkAll, totB]
  | cons t r ih =>
    have e : t.data.toList.length = t.size := by rw [Array.length_toList]; rfl
    simp only [List.map_cons, Rows.uptoBulkAll, sOf, Rows.uptoBulk, e, totB, List.sum_cons]
    simp only [totB] at ih
    omega
theorem len_totB (ts : List ByteArray) : ts.length ≤ totB ts ∧ ∀ t ∈ ts, t.size ≤ totB ts := by
  induction ts with
  | nil => exact ⟨by simp, fun t ht => by cases ht⟩
  | cons t r ih =>
    have e : totB (t :: r) = t.size + 1 + totB r := by simp [totB]
    refine ⟨by rw [e, List.length_cons]; have := ih.1; omega, fun u hu => ?_⟩
    rw [e]
    rcases List.mem_cons.1 hu with rfl | hu
    · omega
    · have := ih.2 u hu; omega

set_option maxRecDepth 100000 in
/-- a slice of texts that came in -/
theorem open_texts {H : Type} {enc : TypeId × Value → H} {W : World} {base : Nat} {spare : Nat → Bool} {held : Bool} {fuel : Nat} {cs : List Value} {x : DataW H × List MemPlace} (h : DataW.trod enc Tryd.prog W base spare held fuel 22 cs = some x) :
    (cs = [.slice none 0 0] ∧ x.1 = .nil) ∨ ∃ (a : Addr) (len cap : Nat) (ts : List ByteArray) (sp : List (DataW H)), cs = [.slice (some a) len cap] ∧ len = ts.length ∧ x.1 = .slice (ts.map sOf) sp ∧
      ∀ i, i < ts.length → W.cell? (a.add i) = some (.string (ts.getD i eB)) := by
  rcases Go.Deep.open_slice Tryd.underlying22 h with ⟨h0, hx⟩ | ⟨a, len, cap, m, n, D, Pl, rfl, hb, hl, hm, hmm, rfl, hx⟩
  · exact .inl ⟨h0, by rw [hx]⟩
  right
  have hlm : len ≤ m := by rw [hmm]; split <;> omega
  have each : ∀ i, i < len → ∃ s : ByteArray, W.cell? (a.add i) = some (.string s) ∧ D i = sOf s := by
    intro i hi
    obtain ⟨cs', h1, h2⟩ := hx i (by omega)
    rw [cellsS] at h1
    obtain ⟨_, hlen, hcell⟩ := World.cells?_some h1
    match cs', hlen with
    | [v0], _ =>
      obtain ⟨s, hs0, hs1, _⟩ := DataW.trod_string Tryd.underlying9 h2
      have e0 := hcell 0 (by omega)
      rw [Go.Deep.add_add] at e0
      simp only [List.cons.injEq, and_true] at hs0
      subst hs0
      refine ⟨s, by simpa using e0, ?_⟩
      have hs2 : D i = DataW.lit (.string s.data.toList) ∧ Pl i = [] := by simpa using hs1
      exact hs2.1
  obtain ⟨q, hq⟩ := Go.Deep.choose_lt each
  refine ⟨a, len, cap, (List.range len).map q, (List.range (m - len)).map (fun j => D (len + j)), rfl, by rw [List.length_map, List.length_range], ?_, fun i hi => ?_⟩
  · show DataW.slice _ _ = DataW.slice _ _
    rw [List.map_map]
    congr 1
    exact List.map_congr_left (fun i hi => (hq i (List.mem_range.1 hi)).2)
  · have hi2 : i < len := by simpa using hi
    have e : ((List.range len).map q).getD i eB = q i := by simp [List.getD_eq_getElem?_getD, hi2]
    rw [e]
    exact (hq i hi2).1
theorem txts_of {W : World} {a : Addr} {ts : List ByteArray} (h : ∀ i, i < ts.length → W.cell? (a.add i) = some (.string (ts.getD i eB))) : Txts W (some a) ts := by
  intro k hk
  obtain ⟨b, off, spot⟩ := a
  have hspot : spot = none := by simpa [Addr.add] using World.cell?_spot (h 0 (by omega))
  subst hspot
  have h1 := h k hk
  rw [addr_add] at h1
  exact ⟨b, off, rfl, h1⟩

set_option maxRecDepth 100000 in
theorem contract (H : Type) (enc : TypeId × Value → H) (W : World) (base : Nat) (args : Array Value) (ds gs : List (DataW H)) (before : List MemPlace)
    (hval : ∀ (j : Nat) t v, Tryd.f3.params[j]? = some t → args[j]? = some v → Value.okWide Tryd.prog W .any base t v)
    (hW : DataW.Whole enc Tryd.prog Tryd.f3.params.toList Rows.verifiesSpec.vars false W args.toList ds gs before) (hL : laidMetH Tryd.prog Rows.verifiesUptoRow.laid W)
    (hk : Rows.uptoSmall H (ds ++ gs) = true) :
    Calls Tryd.prog 3 args W fun e W' => ∃ v, e = .returned v ∧ Rows.verifiesSpec.post enc Tryd.prog Tryd.f3 false true false false W args v W' := by
  have hW' := hW
  obtain ⟨p, q, hA0, hV, rfl, hfz, hnd⟩ := hW
  have hA : DataW.TrodAll enc Tryd.prog W 0 (fun _ => true) true Tryd.f3.params.toList args.toList ds p := hA0
  rw [Tryd.params3] at hA hval
  obtain ⟨v0, vs0, d0, ds0, p0, q0, hargs, rfl, rfl, h0, r0⟩ := trodAll_cons hA
  obtain ⟨v1, vs1, d1, ds1, p1, q1, rfl, rfl, rfl, h1, r1⟩ := trodAll_cons r0
  obtain ⟨v2, vs2, d2, ds2, p2, q2, rfl, rfl, rfl, h2, r2⟩ := trodAll_cons r1
  obtain ⟨rfl, rfl, rfl⟩ := trodAll_nil r2
  obtain rfl : args = #[v0, v1, v2] := by cases args; simp_all
  obtain ⟨rfl, rfl⟩ := trodVars_none hV
  obtain ⟨a2, len2, cap2, rfl⟩ := okWide_slice Tryd.underlying22 (hval 2 22 v2 rfl rfl)
  have k2 := h2
  have lt2 : ∀ x ∈ p2, x.block < W.heap.size := by obtain ⟨m, hm⟩ := k2; exact DataW.trod_lt m _ _ _ hm
  obtain ⟨root, rfl, rfl, rfl, w0⟩ := open_string Tryd.underlying9 (hval 0 9 v0 rfl rfl) h0
  obtain ⟨key, rfl, rfl, rfl, w1⟩ := open_string Tryd.underlying9 (hval 1 9 v1 rfl rfl) h1
  simp only [List.append_nil] at hk
  have hbk : Rows.uptoBulk d2 ≤ 1048576 := by
    have h : Rows.uptoBulkAll [DataW.lit (H := H) (.string root.data.toList), .lit (.string key.data.toList), d2] ≤ 1048576 := of_decide_eq_true hk
    simp only [Rows.uptoBulkAll] at h
    omega
  obtain ⟨ts, hlen, hn, htx, ht⟩ : ∃ ts : List ByteArray, len2 = ts.length ∧ ts.length ≤ 1100000 ∧ Txts W a2 ts ∧ ∀ t ∈ ts, t.size ≤ 140737488351232 := by
    obtain ⟨fuel, hf⟩ := h2
    rcases open_texts hf with ⟨hcs, _⟩ | ⟨x, l, c, ts, sp, hcs, hl, hx, hcell⟩
    · simp [Value.cells] at hcs
      obtain ⟨rfl, rfl, rfl⟩ := hcs
      exact ⟨[], rfl, Nat.zero_le _, fun k hk => by simp at hk, fun t ht => by cases ht⟩
    · simp [Value.cells] at hcs
      obtain ⟨rfl, rfl, rfl⟩ := hcs
      simp only at hx
      rw [hx] at hbk
      simp only [Rows.uptoBulk, bulk_strs] at hbk
      obtain ⟨l1, l2⟩ := len_totB ts
      exact ⟨ts, hl, by omega, txts_of hcell, fun t ht => by have := l2 t ht; omega⟩
  subst hlen
  have hT := tabs hL
  have h2 : 2 ≤ W.heap.size := by
    have := World.block_lt_of_cell? W _ (hT.tus 0 (by decide))
    exact this
  clear hA0
  refine (verifies_walk root key a2 cap2 ts W ⟨hT, h2⟩ htx ht hn).mono fun e W' ⟨he, bel⟩ => ?_
  subst he
  exact ⟨_, rfl, _, _, _, [], _, [], hW', trodAll_mk1 (shut_bool Tryd.underlying4 _), (trodAll_cons_mk (shut_string Tryd.underlying9 w0) (trodAll_cons_mk (shut_string Tryd.underlying9 w1) (trodAll_cons_mk (Below.trod laidOut (by kernel_rfl) (of_decide_eq_true (by kernel_rfl)) k2 bel lt2) trodAll_mk0))), rfl, bel.frame _, fun h => by cases h⟩

/-- a world for the witness: the settled one, the two tables holding what their initialisers lay -/
noncomputable def fill0 : Obj → Obj
  | .cells _ t frozen => .cells (rcL.map fun z => Value.int .u64 z).toArray t frozen
  | o => o
noncomputable def fill1 : Obj → Obj
  | .cells _ t frozen => .cells (tuL.map fun z => Value.int .i64 z).toArray t frozen
  | o => o
noncomputable def laidWorld (os : Os) : World :=
  { World.holding Tryd.prog os ⟨#[], #[], []⟩ with heap := ((World.holding Tryd.prog os ⟨#[], #[], []⟩).heap.modify 0 fill0).modify 1 fill1 }
theorem laid_met (os : Os) : laidMet Tryd.prog Rows.verifiesUptoRow.laid ((laidWorld os).forCall (fun _ _ => 0) ⟨#[], #[.string .empty, .string .empty, .slice none 0 0], []⟩).memory :=
  laidMet_of_run' 40 (by kernel_rfl) (by kernel_rfl)
theorem reads (os : Os) {H : Type} (enc : TypeId × Value → H) : ∃ places, DataW.whole enc Tryd.prog ((laidWorld os).forCall (fun _ _ => 0) ⟨#[], #[.string .empty, .string .empty, .slice none 0 0], []⟩).memory Tryd.f3.params.toList Rows.verifiesSpec.vars false #[Value.string .empty, .string .empty, .slice none 0 0].toList 8 = some ([.lit (.string []), .lit (.string []), .nil], [], places) :=
  ⟨[], by kernel_rfl⟩

set_option maxRecDepth 100000 in
theorem lifted (os : Os) (started : os.Started) (H : Type) (enc : TypeId × Value → H) (F : Stop.Interp) :
    ReturnsInHanded {} Tryd.checked os 3 .any ((Rows.OpenSpec.upto Rows.verifiesSpec).preRow enc Tryd.prog Tryd.f3 Rows.verifiesUptoRow.domain false Rows.verifiesUptoRow.laid) (((Rows.OpenSpec.upto Rows.verifiesSpec).at F).post enc Tryd.prog Tryd.f3 false true false false) := by
  obtain ⟨places, hx⟩ := reads os enc
  refine returnsInHanded_of_row (C := Tryd.checked) (s := Rows.OpenSpec.upto Rows.verifiesSpec) own started (by kernel_rfl) Tryd.func3
    (witness_row_at (enc := enc) (C := Tryd.checked) false (laidWorld os) #[.string .empty, .string .empty, .slice none 0 0] rfl (by kernel_rfl) (by kernel_rfl) (by kernel_rfl)
      (OpenSpec.preRow_of_cond 8 hx (by kernel_rfl) (fun k hk => by obtain rfl : Rows.uptoSmall = k := Option.some.inj hk; kernel_rfl) (by kernel_rfl) (laid_met os))) ?_
  intro W base args ds gs before hval hW _ hcond hsz hL _ _
  exact contract H enc W base args ds gs before hval hW hL (hcond _ rfl)

theorem said : Rows.VerifiesUptoSaid :=
  OpenClaim.holds_of_cond 3 Tryd.f3 rfl rfl rfl rfl rfl rfl rfl ⟨rfl, rfl, rfl, rfl, rfl⟩ rfl rfl rfl rfl rfl (by kernel_rfl) Tryd.func3 (by kernel_rfl)
    (of_decide_eq_true (by kernel_rfl)) (by unfold Func.isWrapper; first | (rw [if_pos (by decide +kernel)]; kernel_rfl) | (rw [if_neg (by decide +kernel)]; exact ⟨rfl, rfl⟩))
    (fun os started H enc _ F => by rw [OpenClaim.pre_eq_preRow]; exact lifted os started H enc F)

theorem plain (f : FuncId) (fn : Func) (hf : Tryd.pinned.checked.prog.funcNamed "canopy/canopylaw.Verifies" = some f) (hfn : Tryd.pinned.checked.prog.funcs[f]? = some fn) :
    true = Tryd.pinned.checked.prog.looks [] ∧ ∀ (j : Nat) t, fn.params[j]? = some t → Tryd.pinned.checked.prog.wantsStandIn t = false := by
  obtain rfl : f = 3 := Option.some.inj ((show Tryd.prog.funcNamed "canopy/canopylaw.Verifies" = some 3 by kernel_rfl).symm.trans hf) |>.symm
  obtain rfl : fn = Tryd.f3 := (Option.some.inj (Tryd.func3.symm.trans hfn)).symm
  refine ⟨by kernel_rfl, fun j t ht => ?_⟩
  rw [Tryd.params3] at ht
  have hm := Array.mem_of_getElem? ht
  have : t = 9 ∨ t = 22 := by simpa using hm
  rcases this with rfl | rfl
  · exact (show Tryd.prog.wantsStandIn 9 = false by kernel_rfl)
  · exact (show Tryd.prog.wantsStandIn 22 = false by kernel_rfl)

theorem card : Rows.VerifiesUptoCardSaid :=
  Claim7.holds_tied_plain_at .later [] _ _ _ _ said (fun _ h => by cases h) (by kernel_rfl) (fun _ h => by cases h) verifiesUpto_row_tie rfl ⟨rfl, rfl⟩ (by kernel_rfl) rfl plain (by kernel_rfl)
end Go.Proofs.YtkegignigkhleaaDoor.verifies
namespace Go.Proofs.YtkegignigkhleaaDoor
theorem verifiesUptoCard_holds : Rows.VerifiesUptoCardSaid := verifies.card
end Go.Proofs.YtkegignigkhleaaDoor
