/-
  OUR OWN: a list of bytes that the call has made, its row marked or not.
-/
import Derived.Test.YtbdkgepidhijlaaDoorKecJ
import Derived.Test.YtbdkgepidhijlaaDoorLawsB
import Derived.Laws.IdiomStrings
import Derived.Laws.IdiomCopy
namespace Go.Proofs.YtbdkgepidhijlaaDoor
open Go.RowKit

def bl (l : List UInt8) : List Value := l.map fun b => Value.int .u8 (b.toNat : Int)
/-- v owns the bytes l -/
def Own8 (w : World) (base : Nat) (v : Value) (l : List UInt8) : Prop :=
  ∃ g cap cur fr, v = .slice (some ⟨g, 0, none⟩) l.length cap ∧ base ≤ g ∧ w.heap[g]? = some (.cells cur 5 fr) ∧ (∀ j, j < cur.size → (decide (fr.1 ≤ j) && decide (j < fr.2)) = false) ∧ l.length ≤ cap ∧ cap ≤ maxLen ∧ cur.size = cap ∧ cur.toList.take l.length = bl l
theorem Own8.lt {w : World} {base : Nat} {v : Value} {l : List UInt8} (h : Own8 w base v l) : ∀ k, v.ownBlock = some k → base ≤ k ∧ k < w.heap.size := by
  obtain ⟨g, cap, cur, fr, rfl, hb, hg, _⟩ := h
  intro k hk
  obtain rfl : g = k := by simpa [Value.ownBlock] using hk
  exact ⟨hb, (Array.getElem?_eq_some_iff.1 hg).1⟩
theorem Own8.kept {w w' : World} {base : Nat} {v : Value} {l : List UInt8} {row : Option Nat} (h : Own8 w base v l) (hg : w.grownBy w' row) (hne : v.ownBlock ≠ row) : Own8 w' base v l := by
  obtain ⟨g, cap, cur, fr, rfl, hb, hgg, r⟩ := h
  exact ⟨g, cap, cur, fr, rfl, hb, by rw [hg.block g (Array.getElem?_eq_some_iff.1 hgg).1 (by simpa [Value.ownBlock] using hne)]; exact hgg, r⟩
theorem Own8.cells {w : World} {base g cap : Nat} {n : Nat} {l : List UInt8} (h : Own8 w base (.slice (some ⟨g, 0, none⟩) n cap) l) : ∀ j, j < l.length → w.cell? ⟨g, j, none⟩ = some (.int .u8 ((l.getD j 0).toNat : Int)) ∧ w.frozen? ⟨g, j, none⟩ = false := by
  obtain ⟨g', cap', cur, fr, hv, hb, hgg, hfr, h1, h2, h3, h4⟩ := h
  simp only [Value.slice.injEq, Option.some.injEq, Addr.mk.injEq, and_true] at hv
  obtain ⟨rfl, -, rfl⟩ := hv
  intro j hj
  constructor
  · rw [cell_of_row w g j cur _ fr hgg]
    have : cur.toList[j]? = (bl l)[j]? := by rw [← h4, List.getElem?_take, if_pos hj]
    rw [Array.getElem?_toList] at this
    rw [this]
    simp [bl, List.getD_eq_getElem?_getD, hj]
  · simp only [World.frozen?, hgg]
    exact hfr j (by omega)
theorem bl_one (l : List UInt8) : ∀ u ∈ bl l, u.oneCell' = true := by
  intro u hu; simp [bl] at hu; obtain ⟨b, _, rfl⟩ := hu; rfl
theorem bl_append (l m : List UInt8) : bl (l ++ m) = bl l ++ bl m := by simp [bl]
theorem bl_length (l : List UInt8) : (bl l).length = l.length := by simp [bl]

theorem run_append8 (w : World) (base : Nat) (ty : TypeId) (v : Value) (l : List UInt8) (hown : Own8 w base v l) (ad : Addr) (c : Nat) (b : UInt8) (hsrc : w.cell? (ad.add 0) = some (.int .u8 (b.toNat : Int)))
    (hbytes : l.length + 1 ≤ 140737488355328) (hbase : base ≤ w.heap.size) :
    ∃ g cap w', (Builtin.append_ #[24, 24] ty #[v, .slice (some ad) 1 c]).run Tryd.prog w = .ok (.slice (some ⟨g, 0, none⟩) (l.length + 1) cap) w' ∧ Own8 w' base (.slice (some ⟨g, 0, none⟩) (l.length + 1) cap) (l ++ [b]) ∧ w.grownBy w' v.ownBlock ∧ (v.ownBlock = some g ∨ g = w.heap.size) := by
  obtain ⟨i0, hi, hz0, hz1, hz2⟩ := info_parts info5
  have hcells := hown
  obtain ⟨g, cap, cur, fr, rfl, hb, hgg, hfr, h1, h2, h3, h4⟩ := hown
  have hnews : ∀ j u, (bl [b])[j]? = some u → w.cell? (ad.add j) = some u := by
    intro j u hu
    match j, hu with
    | 0, hu => simp [bl] at hu; subst hu; exact hsrc
  by_cases hroom : l.length + 1 ≤ cap
  · have hf := run_firstCells_some (P := Tryd.prog) w i0.size 1 ad 1 c (bl [b]) (by simp [bl, hz1]) hnews
    have hst := run_storeCells_cells (P := Tryd.prog) g l.length (bl [b]) 0 w (fun j hj => by
        have hj0 : j = 0 := by simp [bl] at hj; exact hj
        subst hj0
        rw [cell_of_row w g _ cur _ fr hgg, Array.getElem?_eq_getElem (by omega)]; rfl) (fun j hj => by
        have hj0 : j = 0 := by simp [bl] at hj; exact hj
        subst hj0
        simp only [World.frozen?, hgg]
        exact hfr _ (by omega)) (bl_one _)
    simp only [Nat.add_zero] at hst
    have hr : (Builtin.append_ #[24, 24] ty #[.slice (some ⟨g, 0, none⟩) l.length cap, .slice (some ad) 1 c]).run Tryd.prog w = .ok (.slice (some ⟨g, 0, none⟩) (l.length + 1) cap) (w.setCells g l.length (bl [b])) := by
      rw [hz1] at hf
      simp [Builtin.append_, run_underlying Tryd.underlying24, sizeOf, typeInfo, hi, Builtin.lenOf, hroom, hf, Addr.add_lit, hst, hz1]
    refine ⟨g, cap, _, hr, ⟨g, cap, cur.setIfInBounds l.length (.int .u8 (b.toNat : Int)), fr, by simp, hb, ?_, ?_, by simpa using hroom, h2, by simp [h3], ?_⟩, ?_, .inl rfl⟩
    · show (w.setCell ⟨g, l.length, none⟩ (.int .u8 (b.toNat : Int))).heap[g]? = _
      exact heap_setCell_at hgg l.length _
    · intro j hj; exact hfr j (by simpa using hj)
    · rw [bl_append, ← h4]
      apply List.ext_getElem?
      intro j
      simp only [Array.toList_setIfInBounds, List.length_append, List.length_cons, List.length_nil, Nat.zero_add]
      rw [List.getElem?_take]
      by_cases hj : j < l.length
      · rw [if_pos (by omega), List.getElem?_set_ne (by omega), List.getElem?_append_left (by simp; omega), List.getElem?_take, if_pos hj]
      · by_cases hj2 : j = l.length
        · subst hj2
          rw [if_pos (by omega), List.getElem?_set_self (by simp; omega), List.getElem?_append_right (by simp; omega)]
          have : (List.take l.length cur.toList).length = l.length := by simp; omega
          rw [this]; simp [bl]
        · rw [if_neg (by omega), List.getElem?_eq_none (by simp [bl]; omega)]
    · exact grown_set (World.grownBy.refl w _) g l.length _ (.inr rfl)
  · have hr := run_append_grow (P := Tryd.prog) w 24 ty 5 i0 (.int .u8 0) Tryd.underlying24 hi hz0 ⟨g, 0, none⟩ l.length cap (bl l) (by rw [bl_length, hz1]; omega) (fun j u hu => by
        have hj : j < l.length := by have := (List.getElem?_eq_some_iff.1 hu).1; rwa [bl_length] at this
        rw [addr_add, Nat.zero_add, (hcells.cells j hj).1, ← hu]
        simp [bl, List.getD_eq_getElem?_getD, hj]) ad 1 c (bl [b]) (by simp [bl, hz1]) hnews (by omega) (by omega) (growslice_fits (by omega) (by rw [hz2]; omega))
    refine ⟨w.heap.size, _, _, hr, ⟨w.heap.size, grownCap w (l.length + 1) cap 5, _, (0, 0), by simp, hbase, heap_alloc_new w.drew _, ?_, ?_, ?_, ?_, ?_⟩, ⟨rfl, rfl, rfl, by simp, fun k hk _ => Below.heap_alloc w.drew _ k hk⟩, .inr rfl⟩
    · intro j _; simp
    · have := grownCap_ge w (l.length + 1) cap 5; simpa using this
    · exact grownCap_le_maxLen w _ _ _ (by unfold maxLen; omega)
    · have := grownCap_ge w (l.length + 1) cap 5
      have hzc : (Value.int IntKind.u8 0).cells.size = 1 := rfl
      simp only [Array.size_append, List.size_toArray, size_zeroCells, bl_length, List.length_cons, List.length_nil, hzc]
      omega
    · rw [bl_append]
      simp only [Array.toList_append, List.append_assoc]
      rw [← List.append_assoc]
      have : (l ++ [b]).length = (bl l ++ bl [b]).length := by simp [bl]
      rw [this]
      exact List.take_left

theorem Own8.of_string (w : World) (s : ByteArray) (hs : s.size ≤ 140737488355328) : ∃ cap, (convert 9 24 (.string s)).run Tryd.prog w = .ok (.slice (some ⟨w.heap.size, 0, none⟩) s.size cap) (w.drew.alloc (.cells (bytesRow s cap) 5 ((bytesRow s cap).size, (bytesRow s cap).size + 1))) ∧
    Own8 (w.drew.alloc (.cells (bytesRow s cap) 5 ((bytesRow s cap).size, (bytesRow s cap).size + 1))) w.heap.size (.slice (some ⟨w.heap.size, 0, none⟩) s.size cap) s.data.toList := by
  have hr := run_bytes_of_string (P := Tryd.prog) w 9 24 5 s Tryd.underlying9 Tryd.underlying24 Tryd.underlying5
  have hge := grownCap_ge w s.size 0 5
  have hle := grownCap_le_maxLen w s.size 0 5 (by unfold maxLen; omega)
  have e : s.data.toList.length = s.size := by rw [Array.length_toList]; rfl
  have e2 : s.data.size = s.size := rfl
  refine ⟨_, hr, w.heap.size, _, _, _, by rw [e], Nat.le_refl _, heap_alloc_new w.drew _, ?_, by rw [e]; exact hge, hle, ?_, ?_⟩
  · intro j hj; simp; omega
  · simp [bytesRow, e2]; omega
  · rw [e]
    apply List.ext_getElem?
    intro j
    rw [List.getElem?_take]
    by_cases hj : j < s.size
    · rw [if_pos hj, Array.getElem?_toList, bytesRow_at s _ j hj]
      simp [bl, hj, e2]
    · rw [if_neg hj, List.getElem?_eq_none (by rw [bl_length, e]; omega)]

end Go.Proofs.YtbdkgepidhijlaaDoor
