/-
  OUR OWN: the law Encodes: its row's statement.
-/
import Derived.Test.YtoafiieciiijbaaRows
import Derived.Test.YtoafiieciiijbaaEncN
import Derived.WalkKit
import Derived.ProofKit
import Derived.OpenShut
import Derived.ShutString
import Derived.ChangeOld
import Derived.Below
import Derived.SizedLaws
import Derived.Deep.SlicePairs
namespace Go.Proofs.Ytoafiieciiijbaa.encodes
open Go.ChangeShapes Go.WideShapes Go.ChangeAt Go.RowKit
open Go.ChangeMaps (open_string shut_string)

theorem own : ownKnob Try.prog.godebug = none := by kernel_rfl
theorem laidOut : laidOutB Try.prog = true := by kernel_rfl
theorem cells24 : Try.prog.cellsOf 24 = 3 := by kernel_rfl
theorem cells3 : Try.prog.cellsOf 3 = 1 := by kernel_rfl
theorem cells4 : Try.prog.cellsOf 4 = 1 := by kernel_rfl
theorem cells9 : Try.prog.cellsOf 9 = 1 := by kernel_rfl

/-- the datum of a part -/
def dOf {H : Type} (p : IPrt) : DataW H := .agg [.lit (.bool p.1), .lit (.int .i64 p.2.1), .lit (.string p.2.2.data.toList)]
theorem part_weight {H : Type} (p : IPrt) : p.2.2.size ∈ (dOf (H := H) p).weights Try.prog 24 := by
  have e : p.2.2.data.toList.length = p.2.2.size := by rw [Array.length_toList]; rfl
  unfold dOf
  simp [DataW.weights, Try.underlying24, DataW.weightsEach]
  first | done | exact e.symm | (rw [← e]; simp) | skip
theorem parts_weight {H : Type} : ∀ (ps : List IPrt) (p : IPrt), p ∈ ps → p.2.2.size ∈ DataW.weightsAll Try.prog 24 (ps.map (dOf (H := H)))
  | q :: r, p, h => by
    rw [List.map_cons, DataW.weightsAll, List.mem_append]
    rcases List.mem_cons.1 h with rfl | h
    · exact .inl (part_weight _)
    · exact .inr (parts_weight r p h)

set_option maxRecDepth 100000 in
/-- a slice of parts that came in -/
theorem open_parts {H : Type} {enc : TypeId × Value → H} {W : World} {base : Nat} {spare : Nat → Bool} {held : Bool} {fuel : Nat} {cs : List Value} {x : DataW H × List MemPlace} (h : DataW.trod enc Try.prog W base spare held fuel 22 cs = some x) :
    (cs = [.slice none 0 0] ∧ x.1 = .nil) ∨ ∃ (a : Addr) (len cap : Nat) (ps : List IPrt) (sp : List (DataW H)), cs = [.slice (some a) len cap] ∧ len = ps.length ∧ x.1 = .slice (ps.map dOf) sp ∧
      ∀ i, i < ps.length → W.cell? (a.add (i * 3)) = some (.bool (ps.getD i (false, 0, ⟨#[]⟩)).1) ∧ W.cell? (a.add (i * 3 + 1)) = some (.int .i64 (ps.getD i (false, 0, ⟨#[]⟩)).2.1) ∧ W.cell? (a.add (i * 3 + 2)) = some (.string (ps.getD i (false, 0, ⟨#[]⟩)).2.2) := by
  rcases Go.Deep.open_slice Try.underlying22 h with ⟨h0, hx⟩ | ⟨a, len, cap, m, n, D, Pl, rfl, hb, hl, hm, hmm, rfl, hx⟩
  · exact .inl ⟨h0, by rw [hx]⟩
  right
  have hlm : len ≤ m := by rw [hmm]; split <;> omega
  have each : ∀ i, i < len → ∃ p : IPrt, W.cell? (a.add (i * 3)) = some (.bool p.1) ∧ W.cell? (a.add (i * 3 + 1)) = some (.int .i64 p.2.1) ∧ W.cell? (a.add (i * 3 + 2)) = some (.string p.2.2) ∧ D i = dOf p := by
    intro i hi
    obtain ⟨cs', h1, h2⟩ := hx i (by omega)
    rw [cells24] at h1
    obtain ⟨_, hlen, hcell⟩ := World.cells?_some h1
    obtain ⟨xs, k, hk, hxy, _, hxl, hf⟩ := DataW.trod_struct Try.underlying24 h2
    match xs, hxl, cs', hlen with
    | [y0, y1, y2], _, [v0, v1, v2], _ =>
      have g0 := hf 0 _ rfl
      have g1 := hf 1 _ rfl
      have g2 := hf 2 _ rfl
      simp [cells3, cells4, cells9] at g0 g1 g2
      obtain ⟨b, hb0, hb1⟩ := DataW.trod_bool Try.underlying4 g0
      obtain ⟨c, hc0, hc1, _⟩ := DataW.trod_int Try.underlying3 g1
      obtain ⟨s, hs0, hs1, _⟩ := DataW.trod_string Try.underlying9 g2
      have e0 := hcell 0 (by omega)
      have e1 := hcell 1 (by omega)
      have e2 := hcell 2 (by omega)
      rw [Go.Deep.add_add] at e0 e1 e2
      simp only [List.cons.injEq, and_true] at hb0 hc0 hs0
      subst hb0; subst hc0; subst hs0
      simp only [Prod.mk.injEq] at hxy
      refine ⟨(b, c, s), by simpa using e0, by simpa using e1, by simpa using e2, ?_⟩
      rw [hxy.1]
      simp [dOf, hb1, hc1, hs1]
  obtain ⟨q, hq⟩ := Go.Deep.choose_lt each
  refine ⟨a, len, cap, (List.range len).map q, (List.range (m - len)).map (fun j => D (len + j)), rfl, by rw [List.length_map, List.length_range], ?_, fun i hi => ?_⟩
  · show DataW.slice _ _ = DataW.slice _ _
    rw [List.map_map]
    congr 1
    exact List.map_congr_left (fun i hi => (hq i (List.mem_range.1 hi)).2.2.2)
  · have hi2 : i < len := by simpa using hi
    have e : ((List.range len).map q).getD i (false, 0, ⟨#[]⟩) = q i := by simp [List.getD_eq_getElem?_getD, hi2]
    rw [e]
    obtain ⟨h1, h2, h3, _⟩ := hq i hi2
    exact ⟨h1, h2, h3⟩

theorem iprts_of {W : World} {a : Addr} {ps : List IPrt} (h : ∀ i, i < ps.length → W.cell? (a.add (i * 3)) = some (.bool (ps.getD i (false, 0, ⟨#[]⟩)).1) ∧ W.cell? (a.add (i * 3 + 1)) = some (.int .i64 (ps.getD i (false, 0, ⟨#[]⟩)).2.1) ∧ W.cell? (a.add (i * 3 + 2)) = some (.string (ps.getD i (false, 0, ⟨#[]⟩)).2.2)) : IPrts W (some a) ps := by
  intro k hk
  obtain ⟨b, off, spot⟩ := a
  have hspot : spot = none := by simpa [Addr.add] using World.cell?_spot (h 0 (by omega)).1
  subst hspot
  obtain ⟨h1, h2, h3⟩ := h k hk
  rw [addr_add] at h1 h2 h3
  exact ⟨b, off, rfl, h1, by rw [Nat.add_assoc]; exact h2, by rw [Nat.add_assoc]; exact h3⟩

set_option maxRecDepth 100000 in
theorem contract (H : Type) (enc : TypeId × Value → H) (W : World) (base : Nat) (args : Array Value) (ds gs : List (DataW H)) (before : List MemPlace)
    (hval : ∀ (j : Nat) t v, Try.f3.params[j]? = some t → args[j]? = some v → Value.okWide Try.prog W .any base t v)
    (hW : DataW.Whole enc Try.prog Try.f3.params.toList Rows.encodesSpec.vars false W args.toList ds gs before)
    (hsz : (DataW.weightsEach Try.prog (Try.f3.params.toList ++ []) (ds ++ gs)).all (· ≤ reachBytes) = true) :
    Calls Try.prog 3 args W fun e W' => ∃ v, e = .returned v ∧ Rows.encodesSpec.post enc Try.prog Try.f3 false true false false W args v W' := by
  have hW' := hW
  obtain ⟨p, q, hA0, hV, rfl, hfz, hnd⟩ := hW
  have hA : DataW.TrodAll enc Try.prog W 0 (fun _ => true) true Try.f3.params.toList args.toList ds p := hA0
  rw [Try.params3] at hA hval hsz
  obtain ⟨v0, vs0, d0, ds0, p0, q0, hargs, rfl, rfl, h0, r0⟩ := trodAll_cons hA
  obtain ⟨rfl, rfl, rfl⟩ := trodAll_nil r0
  obtain rfl : args = #[v0] := by cases args; simp_all
  obtain ⟨rfl, rfl⟩ := trodVars_none hV
  obtain ⟨a0, len0, cap0, rfl⟩ := okWide_slice Try.underlying22 (hval 0 22 v0 rfl rfl)
  have k0 := h0
  have lt0 : ∀ x ∈ p0, x.block < W.heap.size := by obtain ⟨m, hm⟩ := k0; exact DataW.trod_lt m _ _ _ hm
  obtain ⟨ps, hlen, hn, hip, ht⟩ : ∃ ps : List IPrt, len0 = ps.length ∧ ps.length ≤ 4398046511104 ∧ IPrts W a0 ps ∧ ∀ p ∈ ps, p.2.2.size ≤ 140737488351232 := by
    obtain ⟨fuel, hf⟩ := h0
    rcases open_parts hf with ⟨hcs, _⟩ | ⟨x, l, c, ps, sp, hcs, hl, hx, hcell⟩
    · simp [Value.cells] at hcs
      obtain ⟨rfl, rfl, rfl⟩ := hcs
      exact ⟨[], rfl, Nat.zero_le _, fun k hk => by simp at hk, fun p h => by simp at h⟩
    · simp [Value.cells] at hcs
      obtain ⟨rfl, rfl, rfl⟩ := hcs
      simp only at hx
      subst hx
      have hw1 := sized_slice hsz (j := 0) (t := 22) (e := 24) rfl rfl Try.underlying22
      have hby : Try.prog.bytesOf 24 = 32 := by kernel_rfl
      have hre : reachBytes = 140737488351232 := rfl
      rw [hby, hre, List.length_map] at hw1
      refine ⟨ps, hl, by omega, iprts_of hcell, fun p hp => ?_⟩
      have := List.all_eq_true.1 hsz _ (DataW.weights_mem_each (j := 0) (t := 22) rfl rfl p.2.2.size (by
        simp only [DataW.weights, Try.underlying22, List.mem_cons, List.mem_append]
        exact .inr (.inl (parts_weight ps p hp))))
      have h2 : p.2.2.size ≤ reachBytes := by simpa using this
      rw [hre] at h2
      exact h2
  subst hlen
  clear hA0
  refine (encodes_any a0 cap0 ps W hn hip ht).mono fun e W' ⟨he, bel⟩ => ?_
  subst he
  exact ⟨_, rfl, _, _, _, [], _, [], hW', trodAll_mk1 (shut_bool Try.underlying4 _), trodAll_cons_mk (Below.trod laidOut (by kernel_rfl) (of_decide_eq_true (by kernel_rfl)) k0 bel lt0) trodAll_mk0, rfl, bel.frame _, fun h => by cases h⟩

set_option maxRecDepth 100000 in
theorem lifted (os : Os) (started : os.Started) (H : Type) (enc : TypeId × Value → H) :
    ReturnsInHanded {} Try.checked os 3 .any (Rows.encodesSpec.pre6 enc Try.prog Try.f3 Rows.encodesRow.domain false) (Rows.encodesSpec.post enc Try.prog Try.f3 false true false false) := by
  refine returnsInHanded_of_change_sized (C := Try.checked) own started (by kernel_rfl) Try.func3
    (ChangeSpec.witness6 (enc := enc) (C := Try.checked) false ⟨#[], #[.slice none 0 0], []⟩ 8 (by kernel_rfl) (by kernel_rfl) (by kernel_rfl) (by kernel_rfl)) ?_
  intro W base args ds gs before hval hW _ hsz _
  exact contract H enc W base args ds gs before hval hW hsz

theorem proved : Rows.EncodesSaid :=
  OpenClaim.holds_of_wide 3 Try.f3 rfl rfl rfl rfl rfl rfl rfl ⟨rfl, rfl, rfl, rfl, rfl⟩ rfl rfl rfl rfl rfl (by kernel_rfl) Try.func3 (by kernel_rfl)
    (of_decide_eq_true (by kernel_rfl)) (by unfold Func.isWrapper; first | (rw [if_pos (by decide +kernel)]; kernel_rfl) | (rw [if_neg (by decide +kernel)]; exact ⟨rfl, rfl⟩))
    (fun os started H enc _ => lifted os started H enc)
end Go.Proofs.Ytoafiieciiijbaa.encodes
namespace Go.Proofs.Ytoafiieciiijbaa
theorem encodes_holds : Rows.EncodesSaid := encodes.proved
end Go.Proofs.Ytoafiieciiijbaa
