/-
  OUR OWN: items: what the program's reader answers; the reader's memory.
-/
import Derived.Test.YtoafiieciiijbaaItemDp
namespace Go.Proofs.Ytoafiieciiijbaa
open Go.RowKit
attribute [local go_sem ↓] Go.wp_at_zero Go.wp_at_succ

/-- the reader in block B: its text, the parts so far -/
structure St (w : World) (B : Nat) (s : ByteArray) (lv : Value) (ps : List Prt) : Prop where
  blk : w.heap[B]? = some (.cells #[.string s, lv] 95 (0, 0))
  own : w.ownsRow (B + 1) 24 3 lv ps.length (pcells ps)
/-- what a call of the reader leaves alone -/
structure Fr (B : Nat) (lv lv' : Value) (w w' : World) : Prop where
  os : w'.os = w.os
  tape : w'.tape = w.tape
  output : w'.output = w.output
  size : w.heap.size ≤ w'.heap.size
  block : ∀ k, k < w.heap.size → k ≠ B → lv.ownBlock ≠ some k → w'.heap[k]? = w.heap[k]?
  row : lv'.ownBlock = lv.ownBlock ∨ ∀ k, lv'.ownBlock = some k → w.heap.size ≤ k

theorem Fr.of_below {B : Nat} {lv : Value} {w w' : World} (h : Below w.heap.size w w') : Fr B lv lv w w' :=
  ⟨h.os, h.tape, h.output, h.size, fun k hk _ _ => h.block k hk, .inl rfl⟩
theorem Fr.trans {B : Nat} {lv lv1 lv2 : Value} {w w1 w2 : World} (h : Fr B lv lv1 w w1) (k : Fr B lv1 lv2 w1 w2) : Fr B lv lv2 w w2 where
  os := k.os.trans h.os
  tape := k.tape.trans h.tape
  output := k.output.trans h.output
  size := Nat.le_trans h.size k.size
  block := fun j hj hB hl => by
    rw [k.block j (Nat.lt_of_lt_of_le hj h.size) hB ?_]
    · exact h.block j hj hB hl
    · intro e
      rcases h.row with h1 | h1
      · exact hl (h1 ▸ e)
      · exact absurd (h1 j e) (by omega)
  row := by
    rcases k.row with k1 | k1
    · rcases h.row with h1 | h1
      · exact .inl (k1.trans h1)
      · exact .inr fun j e => h1 j (k1 ▸ e)
    · exact .inr fun j e => Nat.le_trans h.size (k1 j e)
theorem St.keep {w w' : World} {B : Nat} {s : ByteArray} {lv : Value} {ps : List Prt} (h : St w B s lv ps) (hb : Below w.heap.size w w') : St w' B s lv ps where
  blk := by
    have hB : B < w.heap.size := by
      rcases Nat.lt_or_ge B w.heap.size with h1 | h1
      · exact h1
      · have := h.blk; rw [Array.getElem?_eq_none h1] at this; cases this
    rw [hb.block B hB]; exact h.blk
  own := own_far h.own (fun g _ hg => hb.block g hg)
theorem St.lt {w : World} {B : Nat} {s : ByteArray} {lv : Value} {ps : List Prt} (h : St w B s lv ps) : B < w.heap.size := by
  rcases Nat.lt_or_ge B w.heap.size with h1 | h1
  · exact h1
  · have := h.blk; rw [Array.getElem?_eq_none h1] at this; cases this
theorem St.text {w : World} {B : Nat} {s : ByteArray} {lv : Value} {ps : List Prt} (h : St w B s lv ps) : w.cell? ⟨B, 0, none⟩ = some (.string s) := by rw [cell_of_row w B 0 _ _ (0, 0) h.blk]; rfl
theorem St.parts {w : World} {B : Nat} {s : ByteArray} {lv : Value} {ps : List Prt} (h : St w B s lv ps) : w.cell? ⟨B, 1, none⟩ = some lv := by rw [cell_of_row w B 1 _ _ (0, 0) h.blk]; rfl
theorem info24 : (Try.prog.info? 24).map (fun i => (i.zero, i.size, i.bytes)) = some (some (.agg #[.bool false, .int .i64 0, .string ⟨#[]⟩]), 3, 32) := by kernel_rfl

set_option maxHeartbeats 1000000 in
set_option maxRecDepth 20000 in
/-- a head that is none -/
theorem read_err (s : ByteArray) (B a limit d : Nat) (lv : Value) (ps : List Prt) (er : Int) (her : er ≠ 0) (w : World) (hst : St w B s lv ps)
    (hh : ∀ W, Calls Try.prog 60 #[.string s, .int .i64 (a : Int), .int .i64 (limit : Int)] W fun e w' => e = .returned (.tuple #[hd false 0 0, .int .i64 er]) ∧ Below W.heap.size W w') :
    Calls Try.prog 48 #[.pointer (some ⟨B, 0, none⟩), .int .i64 (a : Int), .int .i64 (limit : Int), .int .i64 (d : Int)] w fun e w' => e = .returned (.tuple #[.int .i64 0, .int .i64 er]) ∧ Below w.heap.size w w' := by
  have HH := hide hh
  have ht := hst.text
  have he : (er != 0) = true := by simpa using her
  clear hh hst her
  go_enter Try.func48, Try.ntmps48
  go_wp2_with fail
  refine (HH.out _).mono ?_
  rintro e w1 ⟨rfl, hb⟩
  unfold hd
  go_wp2
  go_ret2
  exact ⟨rfl, hb.alloc hb.size _⟩

end Go.Proofs.Ytoafiieciiijbaa
