/-
  OUR OWN: items: the reader at a list.
-/
import Derived.Test.YtoafiieciiijbaaItemE
import Derived.Test.YtoafiieciiijbaaItemG
namespace Go.Proofs.Ytoafiieciiijbaa
open Go.RowKit
attribute [local go_sem ↓] Go.wp_at_zero Go.wp_at_succ

/-- what a call of read answers -/
def ReadPost (s : ByteArray) (res : Except Int (List Prt × Nat)) (B : Nat) (lv : Value) (ps : List Prt) (w : World) (e : Ending) (w' : World) : Prop :=
  match res with
  | .error x => (∃ n : Int, e = .returned (.tuple #[.int .i64 n, .int .i64 x])) ∧ ∃ lv', Fr B lv lv' w w'
  | .ok (qs, en) => e = .returned (.tuple #[.int .i64 (en : Int), .int .i64 0]) ∧ ∃ lv', Fr B lv lv' w w' ∧ St w' B s lv' (ps ++ qs)
/-- read, inside of d lists -/
def ReadOk (s : ByteArray) (r d : Nat) : Prop := ∀ (B a limit : Nat) (lv : Value) (ps : List Prt) (w : World), St w B s lv ps → limit ≤ s.size → a ≤ limit → ps.length ≤ a →
  Calls Try.prog 48 #[.pointer (some ⟨B, 0, none⟩), .int .i64 (a : Int), .int .i64 (limit : Int), .int .i64 (d : Int)] w fun e w' => ReadPost s (readN s r a limit) B lv ps w e w'

theorem pcells_at (ps acc : List Prt) (p : Prt) : (pcells (ps ++ p :: acc))[ps.length * 3 + 1]? = some (.int .i64 (p.2.1 : Int)) := by
  rw [pcells_append, List.getElem?_append_right (by rw [pcells_length]; omega), pcells_length, show ps.length * 3 + 1 - ps.length * 3 = 1 from by omega]
  simp [pcells, pcell]
theorem pcells_set (ps acc : List Prt) (p : Prt) (n : Nat) : (pcells (ps ++ p :: acc)).set (ps.length * 3 + 1) (.int .i64 (n : Int)) = pcells (ps ++ (p.1, n, p.2.2) :: acc) := by
  rw [pcells_append, pcells_append, List.set_append_right _ _ (by rw [pcells_length]; omega), pcells_length, show ps.length * 3 + 1 - ps.length * 3 = 1 from by omega]
  simp [pcells, pcell]

/-- one item more of a list -/
theorem St.bump {w : World} {B : Nat} {s : ByteArray} {lv : Value} {ps acc : List Prt} {p : Prt} (h : St w B s lv (ps ++ p :: acc)) (n : Nat) :
    ∃ g c, lv = .slice (some ⟨g, 0, none⟩) (ps ++ p :: acc).length c ∧ (ps ++ p :: acc).length ≤ c ∧ w.cell? ⟨g, ps.length * 3 + 1, none⟩ = some (.int .i64 (p.2.1 : Int)) ∧ w.frozen? ⟨g, ps.length * 3 + 1, none⟩ = false ∧
      St (w.setCell ⟨g, ps.length * 3 + 1, none⟩ (.int .i64 (n : Int))) B s lv (ps ++ (p.1, n, p.2.2) :: acc) ∧ Fr B lv lv w (w.setCell ⟨g, ps.length * 3 + 1, none⟩ (.int .i64 (n : Int))) := by
  have hne := h.row_ne
  rcases h.own with ⟨hl, ⟨_, h0⟩ | ⟨g, c, cur, rfl, hbg, hg, hnc, hcm, hcs, htk⟩⟩
  · simp at h0
  · have hgB : g ≠ B := by rintro rfl; exact hne rfl
    have hlen : (ps ++ (p.1, n, p.2.2) :: acc).length = (ps ++ p :: acc).length := by simp
    have hj : ps.length * 3 + 1 < (ps ++ p :: acc).length * 3 := by simp; omega
    have hcell : cur[ps.length * 3 + 1]? = some (.int .i64 (p.2.1 : Int)) := by
      have h1 := pcells_at ps acc p
      rw [← htk, List.getElem?_take, if_pos hj] at h1
      rw [← h1]; simp
    refine ⟨g, c, rfl, hnc, by rw [cell_of_row w g _ cur _ (0, 0) hg]; exact hcell, by unfold World.frozen?; simp [hg], ⟨?_, ?_⟩, ?_⟩
    · rw [Below.heap_setCell _ _ _ _ (Ne.symm hgB)]; exact h.blk
    · refine ⟨by rw [pcells_length], .inr ⟨g, c, cur.setIfInBounds (ps.length * 3 + 1) (.int .i64 (n : Int)), by rw [hlen], hbg, set_same hg _, by rw [hlen]; exact hnc, hcm, by simpa using hcs, ?_⟩⟩
      rw [hlen, ← pcells_set, ← htk]
      simp [List.take_set]
    · refine ⟨rfl, rfl, rfl, by simp, fun k hk hkB hkl => ?_, .inl rfl⟩
      exact Below.heap_setCell _ _ _ _ (fun e => hkl (by rw [e]; rfl))
end Go.Proofs.Ytoafiieciiijbaa
