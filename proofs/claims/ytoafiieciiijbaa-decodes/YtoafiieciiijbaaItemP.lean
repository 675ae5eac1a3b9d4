/-
  OUR OWN: items: the reference's list while it grows.
-/
import Derived.Test.YtoafiieciiijbaaItemO
namespace Go.Proofs.Ytoafiieciiijbaa
open Go.RowKit

theorem infoIt : (Try.prog.info? 66).map (fun i => (i.zero, i.size, i.bytes)) = some (some it0, 3, 48) := by kernel_rfl

/-- the list so far: its block, its row, its items -/
structure Ls (r : Nat) (w wr : World) (X : Nat) (lk : Value) (css : List (List Value)) (pss : List (List Prt)) : Prop where
  blk : wr.heap[X]? = some (.cells #[.bool true, .string ⟨#[]⟩, lk] 66 (0, 0))
  own : wr.ownsRow (X + 1) 66 3 lk css.length css.flatten
  len : css.length = pss.length
  its : ∀ i, i < css.length → ItIs r wr (fun k => X < k ∧ lk.ownBlock ≠ some k) (css.getD i []) (pss.getD i [])
  bel : Below w.heap.size w wr
  hX : w.heap.size ≤ X

theorem Ls.lt {r : Nat} {w wr : World} {X : Nat} {lk : Value} {css : List (List Value)} {pss : List (List Prt)} (h : Ls r w wr X lk css pss) : X < wr.heap.size := by
  rcases Nat.lt_or_ge X wr.heap.size with h1 | h1
  · exact h1
  · have := h.blk; rw [Array.getElem?_eq_none h1] at this; cases this
theorem Ls.row_ne {r : Nat} {w wr : World} {X : Nat} {lk : Value} {css : List (List Value)} {pss : List (List Prt)} (h : Ls r w wr X lk css pss) : lk.ownBlock ≠ some X := by
  intro e
  have := own_ge h.own (Nat.le_refl _) X e
  omega

theorem Ls.push {r : Nat} {w wr w6 w8 : World} {X : Nat} {lk : Value} {css : List (List Value)} {pss : List (List Prt)} {c0 c1 c2 : Value} {ps : List Prt} {o1 o2 : Obj} {g c : Nat} (h : Ls r w wr X lk css pss) (hb : Below wr.heap.size wr w6)
    (hit : ItIs r w6 (fun k => wr.heap.size ≤ k) [c0, c1, c2] ps)
    (ho : w8.ownsRow (X + 1) 66 3 (.slice (some ⟨g, 0, none⟩) (css.length + 1) c) (css.length + 1) (css.flatten ++ [c0, c1, c2])) (hg : ((w6.alloc o1).alloc o2).grownBy w8 lk.ownBlock) (hat : lk.ownBlock = some g ∨ g = ((w6.alloc o1).alloc o2).heap.size) :
    w8.cell? ⟨X, 2, none⟩ = some lk ∧ w8.frozen? ⟨X, 2, none⟩ = false ∧ (∀ k, k < wr.heap.size → lk.ownBlock ≠ some k → w8.heap[k]? = wr.heap[k]?) ∧ Ls r w (w8.setCell ⟨X, 2, none⟩ (.slice (some ⟨g, 0, none⟩) (css.length + 1) c)) X (.slice (some ⟨g, 0, none⟩) (css.length + 1) c) (css ++ [[c0, c1, c2]]) (pss ++ [ps]) := by
  have hs6 := hb.size
  have hXl := h.lt
  -- what lay below w6's end, but the row, lies as it did
  have h6 : ∀ k, k < w6.heap.size → lk.ownBlock ≠ some k → w8.heap[k]? = w6.heap[k]? := by
    intro k hk hl
    rw [hg.block k (by simp; omega) (fun e => hl e.symm), Below.heap_alloc _ o2 k (by simp; omega), Below.heap_alloc _ o1 k hk]
  have hrl : ∀ k, lk.ownBlock = some k → k < wr.heap.size := by
    intro k e
    rcases h.own.2 with ⟨rfl, _⟩ | ⟨g', c', cur, rfl, _, hg', _⟩
    · cases e
    · obtain rfl : g' = k := by simpa [Value.ownBlock] using e
      rcases Nat.lt_or_ge g' wr.heap.size with h1 | h1
      · exact h1
      · rw [Array.getElem?_eq_none h1] at hg'; cases hg'
  have h4 : w8.heap[X]? = some (.cells #[.bool true, .string ⟨#[]⟩, lk] 66 (0, 0)) := by
    rw [h6 X (by omega) h.row_ne, hb.block X hXl]; exact h.blk
  have hgX : g ≠ X := by
    rintro rfl
    rcases hat with e | e
    · exact h.row_ne e
    · simp at e; omega
  have hgo : ∀ k, k < w6.heap.size → (Value.slice (some ⟨g, 0, none⟩) (css.length + 1) c).ownBlock = some k → lk.ownBlock = some k := by
    intro k hk e
    obtain rfl : g = k := by simpa [Value.ownBlock] using e
    rcases hat with e1 | e1
    · exact e1
    · simp at e1; omega
  have hset : ∀ k, k ≠ X → (w8.setCell ⟨X, 2, none⟩ (.slice (some ⟨g, 0, none⟩) (css.length + 1) c)).heap[k]? = w8.heap[k]? := fun k hk => Below.heap_setCell _ _ _ _ hk
  refine ⟨by rw [cell_of_row w8 X 2 _ _ (0, 0) h4]; rfl, by unfold World.frozen?; simp [h4], fun k hk hl => by rw [h6 k (by omega) hl]; exact hb.block k hk, ⟨by rw [set_same h4]; rfl, ?_, by simp [h.len], ?_, ?_, h.hX⟩⟩
  · have e : (css ++ [[c0, c1, c2]]).flatten = css.flatten ++ [c0, c1, c2] := by simp
    rw [e, List.length_append]
    refine own_far ho (fun k e _ => hset k ?_)
    obtain rfl : g = k := by simpa [Value.ownBlock] using e
    exact hgX
  · intro i hi
    have hbw := h.bel.size
    by_cases hi2 : i < css.length
    · have e1 : (css ++ [[c0, c1, c2]]).getD i [] = css.getD i [] := by rw [List.getD_eq_getElem?_getD, List.getElem?_append_left hi2, ← List.getD_eq_getElem?_getD]
      have e2 : (pss ++ [ps]).getD i [] = pss.getD i [] := by rw [List.getD_eq_getElem?_getD, List.getElem?_append_left (show i < pss.length from h.len ▸ hi2), ← List.getD_eq_getElem?_getD]
      rw [e1, e2]
      refine (h.its i hi2).keep ?_
      rintro k ⟨k1, k3⟩ hk
      refine ⟨?_, k1, fun e => k3 (hgo k (by omega) e)⟩
      rw [hset k (by omega), h6 k (by omega) k3, hb.block k hk]
    · have hie : i = css.length := by simp at hi; omega
      have e1 : (css ++ [[c0, c1, c2]]).getD i [] = [c0, c1, c2] := by simp [List.getD_eq_getElem?_getD, hie]
      have e2 : (pss ++ [ps]).getD i [] = ps := by simp [List.getD_eq_getElem?_getD, hie, h.len]
      rw [e1, e2]
      refine hit.keep ?_
      intro k k1 hk
      have hk3 : lk.ownBlock ≠ some k := fun e => absurd (hrl k e) (by omega)
      refine ⟨?_, by omega, fun e => hk3 (hgo k hk e)⟩
      rw [hset k (by omega), h6 k hk hk3]
  · have hbw := h.bel.size
    have h9 : Below w.heap.size w ((w6.alloc o1).alloc o2) := ((h.bel.trans (hb.mono hbw)).alloc (by omega) _).alloc (by simp; omega) _
    refine (h9.grown hg (by simp; omega) (fun k e => ?_)).setCell h.hX _
    have := own_ge h.own (Nat.le_refl _) k e
    have := h.hX
    omega

theorem ItIs.shape {w : World} {ok : Nat → Prop} {r : Nat} {cs : List Value} {ps : List Prt} (h : ItIs r w ok cs ps) : ∃ (l : Bool) (b : ByteArray) (ao : Option Addr) (lo lc : Nat), cs = [.bool l, .string b, .slice ao lo lc] := by
  cases r with
  | zero => obtain ⟨b, rfl, _⟩ := h; exact ⟨_, _, _, _, _, rfl⟩
  | succ r =>
    rcases h with ⟨b, rfl, _⟩ | ⟨v, css, pss, rfl, ho, _⟩
    · exact ⟨_, _, _, _, _, rfl⟩
    · rcases ho.2 with ⟨rfl, _⟩ | ⟨g, c, cur, rfl, _⟩
      · exact ⟨_, _, _, _, _, rfl⟩
      · exact ⟨_, _, _, _, _, rfl⟩
/-- the list, when it is whole: laid into another block -/
theorem Ls.done {r : Nat} {w wr w' : World} {X R : Nat} {lk : Value} {css : List (List Value)} {pss : List (List Prt)} (h : Ls r w wr X lk css pss) (hR : R < X) (hRw : w.heap.size ≤ R) (hk : ∀ k, k ≠ R → w'.heap[k]? = wr.heap[k]?) :
    ItIs (r + 1) w' (fun k => w.heap.size ≤ k) [.bool true, .string ⟨#[]⟩, lk] ((true, css.length, ⟨#[]⟩) :: pss.flatten) := by
  refine .inr ⟨lk, css, pss, rfl, own_far (own_base h.own (Nat.zero_le _)) (fun g e _ => hk g ?_), fun g e => ?_, h.len, fun i hi => (h.its i hi).keep ?_, rfl⟩
  · have := own_ge h.own (Nat.le_refl _) g e; omega
  · have := own_ge h.own (Nat.le_refl _) g e; omega
  · rintro k ⟨k1, _⟩ _
    exact ⟨hk k (by omega), by omega⟩
end Go.Proofs.Ytoafiieciiijbaa
