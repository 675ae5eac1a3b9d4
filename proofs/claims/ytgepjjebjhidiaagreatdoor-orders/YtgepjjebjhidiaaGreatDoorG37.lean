/-
  OUR OWN: StA.
-/
import Derived.Test.YtgepjjebjhidiaaGreatDoorG30
import Derived.MapKept
namespace Go.Proofs.YtgepjjebjhidiaaGreatDoor
open Go.RowKit Go.MapKept

def entV (p : Pr) : Value := .agg #[.string p.1, .string p.2]
/-- a store: names and texts, one after the other -/
structure StoreAt (w : World) (M : Nat) (S : List Pr) : Prop where
  at' : ∃ (es : Array MapEntry) (c : Nat), w.heap[M]? = some (.map es c) ∧ es.toList.map (fun e => (e.key, e.val)) = S.map (fun p => (Value.string p.1, entV p))
theorem StoreAt.lt {w : World} {M : Nat} {S : List Pr} (h : StoreAt w M S) : M < w.heap.size := by
  obtain ⟨es, c, h1, _⟩ := h.at'
  exact (Array.getElem?_eq_some_iff.1 h1).1
theorem StoreAt.keep {w w' : World} {M : Nat} {S : List Pr} (h : StoreAt w M S) (hb : w'.heap[M]? = w.heap[M]?) : StoreAt w' M S := by
  obtain ⟨es, c, h1, h2⟩ := h.at'
  exact ⟨es, c, hb.trans h1, h2⟩
theorem find_store (k : ByteArray) : ∀ (es : List MapEntry) (S : List Pr) (i : Nat), es.map (fun e => (e.key, e.val)) = S.map (fun p => (Value.string p.1, entV p)) →
    (S.find? (fun p => decide (p.1 = k)) = none ∧ Instr.findNow .string (.string k) es i = some none) ∨ ∃ p j, S.find? (fun p => decide (p.1 = k)) = some p ∧ Instr.findNow .string (.string k) es i = some (some (j, entV p))
  | [], [], _, _ => .inl ⟨rfl, rfl⟩
  | [], _ :: _, _, h => by simp at h
  | _ :: _, [], _, h => by simp at h
  | e :: es, p :: S, i, h => by
    simp only [List.map_cons, List.cons.injEq, Prod.mk.injEq] at h
    obtain ⟨⟨h1, h2⟩, h3⟩ := h
    rw [List.find?_cons]
    unfold Instr.findNow
    rw [h1]
    simp only [Instr.sameNow]
    by_cases hk : p.1 = k
    · have e2 : (k == p.1) = true := (bytes_beq _ _).2 hk.symm
      rw [decide_eq_true hk, e2]
      exact .inr ⟨p, i, rfl, by rw [h2]⟩
    · have e2 : (k == p.1) = false := by
        cases h : (k == p.1) with
        | false => rfl
        | true => exact absurd ((bytes_beq _ _).1 h).symm hk
      rw [decide_eq_false hk, e2]
      exact find_store k es S (i + 1) h3
theorem underM : Tryz.prog.underlying 53 = some (.map 9 48) := by kernel_rfl
theorem underS : Tryz.prog.underlying 9 = some .string := by kernel_rfl
theorem zeroE (w : World) : (zeroValue 48).run Tryz.prog w = .ok (entV (e0, e0)) w := by kernel_rfl
/-- a store's entry under a name -/
theorem look_none {w : World} {M : Nat} {S : List Pr} (h : StoreAt w M S) {k : ByteArray} (hk : S.find? (fun p => decide (p.1 = k)) = none) :
    (Instr.lookup 53 (.map (some M)) (.string k) true).run Tryz.prog w = .ok (.tuple #[entV (e0, e0), .bool false]) w := by
  obtain ⟨es, c, h1, h2⟩ := h.at'
  rcases find_store k es.toList S 0 h2 with ⟨_, hf⟩ | ⟨p, j, hf, _⟩
  · simp [Instr.lookup, run_underlying underM, MapKept.run_getObj_map h1, MapKept.run_checkKey underS (k := .string k) trivial, MapKept.run_findKey underS hf, Result.andThen]
    rfl
  · rw [hk] at hf; cases hf
set_option maxRecDepth 20000 in
theorem look_some' {w : World} {M : Nat} {S : List Pr} (h : StoreAt w M S) {k : ByteArray} {p : Pr} (hk : S.find? (fun p => decide (p.1 = k)) = some p) :
    (Instr.lookup 53 (.map (some M)) (.string k) true).run Tryz.prog w = .ok (.tuple #[entV p, .bool true]) w := by
  obtain ⟨es, c, h1, h2⟩ := h.at'
  rcases find_store k es.toList S 0 h2 with ⟨hf, _⟩ | ⟨p', j, hf, hg⟩
  · rw [hk] at hf; cases hf
  · rw [hk] at hf
    injection hf with hf
    subst hf
    simp [Instr.lookup, run_underlying underM, MapKept.run_getObj_map h1, MapKept.run_checkKey underS (k := .string k) trivial, MapKept.run_findKey underS hg, Result.andThen]
/-- a new entry -/
theorem lay_new {w : World} {M : Nat} {S : List Pr} (h : StoreAt w M S) {k x : ByteArray} (hk : S.find? (fun p => decide (p.1 = k)) = none) :
    ∃ w', (Instr.mapUpdate 53 (.map (some M)) (.string k) (entV (k, x))).run Tryz.prog w = .ok () w' ∧ StoreAt w' M (S ++ [(k, x)]) ∧ w.grownBy w' (some M) ∧ w'.heap.size = w.heap.size ∧ ∀ j, j ≠ M → w'.heap[j]? = w.heap[j]? := by
  obtain ⟨es, c, h1, h2⟩ := h.at'
  rcases find_store k es.toList S 0 h2 with ⟨_, hf⟩ | ⟨p, j, hf, _⟩
  · obtain ⟨g1, g2⟩ := heap_set (o' := .map (es.push { key := .string k, val := entV (k, x), born := c }) (c + 1)) h1
    refine ⟨{ w with heap := w.heap.setIfInBounds M (.map (es.push { key := .string k, val := entV (k, x), born := c }) (c + 1)) }, ?_, ⟨_, _, g1, ?_⟩, ⟨rfl, rfl, rfl, by simp, fun j _ hj => g2 j (fun e => hj (by rw [e]))⟩, by simp, g2⟩
    · simp [Instr.mapUpdate, run_underlying underM, MapKept.run_getObj_map h1, MapKept.run_checkKey underS (k := .string k) trivial, MapKept.run_findKey underS hf, MapKept.run_setObj_map _ h1, Result.andThen]
    · rw [Array.toList_push, List.map_append, List.map_append, h2]
      rfl
  · rw [hk] at hf; cases hf
set_option maxHeartbeats 1000000 in
theorem isRight_any (t h : ByteArray) (w : World) (hT : TbZ w) (ht : t.size ≤ 9223372036854775000) : Calls Tryz.prog 58 #[.string t, .string h] w fun e w' => e = .returned (.bool ((hashOf t).toList == h.toList)) ∧ Below w.heap.size w w' := by
  have HS := hide (sumZ_any t w hT ht)
  clear hT
  go_enter Tryz.func58, Tryz.ntmps58
  go_wp2_with fail
  refine HS.out.mono ?_
  rintro e w1 ⟨rfl, hb1⟩
  have HB := hide hb1
  clear hb1
  go_wp2
  go_ret
  exact ⟨rfl, HB.out⟩
end Go.Proofs.YtgepjjebjhidiaaGreatDoor
