/-
  OUR OWN: items: the reader at bytes.
-/
import Derived.Test.YtoafiieciiijbaaItemD
namespace Go.Proofs.Ytoafiieciiijbaa
open Go.RowKit
attribute [local go_sem ↓] Go.wp_at_zero Go.wp_at_succ

theorem St.row_ne {w : World} {B : Nat} {s : ByteArray} {lv : Value} {ps : List Prt} (h : St w B s lv ps) : lv.ownBlock ≠ some B := by
  intro e
  have := own_ge h.own (Nat.le_refl _) B e
  omega
theorem St.row_lt {w : World} {B : Nat} {s : ByteArray} {lv : Value} {ps : List Prt} (h : St w B s lv ps) : ∀ k, lv.ownBlock = some k → k < w.heap.size := by
  intro k e
  rcases h.own.2 with ⟨rfl, _⟩ | ⟨g, c, cur, rfl, _, hg, _⟩
  · cases e
  · obtain rfl : g = k := by simpa [Value.ownBlock] using e
    rcases Nat.lt_or_ge g w.heap.size with h1 | h1
    · exact h1
    · rw [Array.getElem?_eq_none h1] at hg; cases hg

/-- behind the append, and behind the store -/
theorem push_facts {W0 w3 w4 : World} {B : Nat} {s : ByteArray} {lv : Value} {ps : List Prt} {p : Prt} {o : Obj} {g c : Nat} (h : St W0 B s lv ps) (hb : Below W0.heap.size W0 w3)
    (ho : w4.ownsRow (B + 1) 24 3 (.slice (some ⟨g, 0, none⟩) (ps.length + 1) c) (ps.length + 1) (pcells ps ++ pcell p)) (hg : (w3.alloc o).grownBy w4 lv.ownBlock) (hat : lv.ownBlock = some g ∨ g = (w3.alloc o).heap.size) :
    w4.cell? ⟨B, 1, none⟩ = some lv ∧ w4.frozen? ⟨B, 1, none⟩ = false ∧ (∀ b, b < W0.heap.size → lv.ownBlock ≠ some b → w4.heap[b]? = W0.heap[b]?) ∧
    St (w4.setCell ⟨B, 1, none⟩ (.slice (some ⟨g, 0, none⟩) (ps.length + 1) c)) B s (.slice (some ⟨g, 0, none⟩) (ps.length + 1) c) (ps ++ [p]) ∧
    Fr B lv (.slice (some ⟨g, 0, none⟩) (ps.length + 1) c) W0 (w4.setCell ⟨B, 1, none⟩ (.slice (some ⟨g, 0, none⟩) (ps.length + 1) c)) := by
  have hB := h.lt
  have h3 : ∀ b, b < W0.heap.size → lv.ownBlock ≠ some b → w4.heap[b]? = W0.heap[b]? := by
    intro b hb1 hb2
    have h3 := hb.size
    rw [hg.block b (by simp; omega) (fun e => hb2 e.symm), Below.heap_alloc w3 o b (by omega)]
    exact hb.block b hb1
  have h4 : w4.heap[B]? = some (.cells #[.string s, lv] 95 (0, 0)) := by rw [h3 B hB h.row_ne]; exact h.blk
  have hgB : g ≠ B := by
    rintro rfl
    rcases hat with e | e
    · exact h.row_ne e
    · have := hb.size; simp at e; omega
  refine ⟨by rw [cell_of_row w4 B 1 _ _ (0, 0) h4]; rfl, by unfold World.frozen?; simp [h4], h3, ⟨by rw [set_same h4]; rfl, ?_⟩, ?_⟩
  · rw [pcells_append, pcells_one, List.length_append]
    refine own_far ho (fun k e _ => ?_)
    obtain rfl : g = k := by simpa [Value.ownBlock] using e
    exact Below.heap_setCell _ _ _ _ hgB
  · refine ⟨?_, ?_, ?_, ?_, fun k hk hkB hkl => ?_, ?_⟩
    · show w4.os = _; rw [hg.os]; exact hb.os
    · show w4.tape = _; rw [hg.tape]; exact hb.tape
    · show w4.output = _; rw [hg.output]; exact hb.output
    · have := hg.size; have := hb.size; simp at *; omega
    · rw [Below.heap_setCell _ _ _ _ hkB]; exact h3 k hk hkl
    · rcases hat with e | e
      · exact .inl (by rw [e]; rfl)
      · refine .inr fun k ek => ?_
        obtain rfl : g = k := by simpa [Value.ownBlock] using ek
        have := hb.size; simp at e; omega
theorem pcell_news (w : World) (p : Prt) : ∀ j u, (pcell p)[j]? = some u → (w.alloc (.cells #[.bool p.1, .int .i64 (p.2.1 : Int), .string p.2.2] 24)).cell? ((⟨w.heap.size, 0, none⟩ : Addr).add j) = some u :=
  World.news_of_block (cs := #[.bool p.1, .int .i64 (p.2.1 : Int), .string p.2.2]) (t := 24) (fr := (0, 0)) (heap_alloc_new w _)
end Go.Proofs.Ytoafiieciiijbaa
