/-
  OUR OWN: items: the reader at bytes.
-/
import Derived.Test.YtoafiieciiijbaaItemE
import Derived.Deep.RegionLaw
namespace Go.Proofs.Ytoafiieciiijbaa
open Go.RowKit
attribute [local go_sem ↓] Go.wp_at_zero Go.wp_at_succ

set_option maxHeartbeats 4000000 in
set_option maxRecDepth 20000 in
theorem read_text (s : ByteArray) (B a limit d st en : Nat) (lv : Value) (ps : List Prt) (w : World) (hst : St w B s lv ps) (hse : st ≤ en) (hen : en ≤ s.size) (hs : s.size ≤ 6000) (hps : ps.length ≤ 6000)
    (hh : ∀ W, Calls Try.prog 60 #[.string s, .int .i64 (a : Int), .int .i64 (limit : Int)] W fun e w' => e = .returned (.tuple #[hd false st en, .int .i64 0]) ∧ Below W.heap.size W w') :
    Calls Try.prog 48 #[.pointer (some ⟨B, 0, none⟩), .int .i64 (a : Int), .int .i64 (limit : Int), .int .i64 (d : Int)] w fun e w' => e = .returned (.tuple #[.int .i64 (en : Int), .int .i64 0]) ∧ ∃ lv', Fr B lv lv' w w' ∧ St w' B s lv' (ps ++ [(false, 0, s.extract st en)]) := by
  obtain ⟨i0, hi, hz0, hz1, hz2⟩ := info_parts info24
  have HH := hide hh
  have HT := hide hst
  have HZ := hide (ext_size s st en hse hen)
  have ht := hst.text
  have c2 : (st : Int) ≤ (en : Int) := by omega
  have c3 : (en : Int) ≤ (s.size : Int) := by omega
  have c4 : (0 : Int) ≤ (st : Int) := by omega
  have HS := hide hs
  have HP := hide hps
  clear hh hst hse hs hps
  go_enter Try.func48, Try.ntmps48
  go_wp2_with fail
  refine (HH.out _).mono ?_
  rintro e w1 ⟨rfl, hb⟩
  have ht1 : w1.cell? ⟨B, 0, none⟩ = some (.string s) := by rw [hb.cell HT.out.lt]; exact ht
  have HB := hide hb
  have ht2 : (w1.alloc (.cells #[.bool false, .int .i64 (st : Int), .int .i64 (en : Int)] 113)).cell? ⟨B, 0, none⟩ = some (.string s) := by rw [(below_alloc w1 _).cell (Nat.lt_of_lt_of_le HT.out.lt hb.size)]; exact ht1
  have HD : Hid (St (w1.alloc (.cells #[.bool false, .int .i64 (st : Int), .int .i64 (en : Int)] 113)) B s lv ps) := (HT.out.keep HB.out).keep (below_alloc w1 _)
  have hst0 : (w1.alloc (.cells #[.bool false, .int .i64 (st : Int), .int .i64 (en : Int)] 113)).cell? ⟨w1.heap.size, 1, none⟩ = some (.int .i64 (st : Int)) := cell_of_row _ w1.heap.size 1 _ _ (0, 0) (heap_alloc_new w1 (.cells #[.bool false, .int .i64 (st : Int), .int .i64 (en : Int)] 113))
  have hend : (w1.alloc (.cells #[.bool false, .int .i64 (st : Int), .int .i64 (en : Int)] 113)).cell? ⟨w1.heap.size, 2, none⟩ = some (.int .i64 (en : Int)) := cell_of_row _ w1.heap.size 2 _ _ (0, 0) (heap_alloc_new w1 (.cells #[.bool false, .int .i64 (st : Int), .int .i64 (en : Int)] 113))
  have HSZ : Hid (w1.heap.size < (w1.alloc (.cells #[.bool false, .int .i64 (st : Int), .int .i64 (en : Int)] 113)).heap.size) := by show _ < _; simp
  have HW : Hid (Below w.heap.size w (w1.alloc (.cells #[.bool false, .int .i64 (st : Int), .int .i64 (en : Int)] 113))) := HB.out.alloc HB.out.size _
  clear hb ht
  unfold hd
  go_wp2_with fail
  generalize World.alloc w1 _ = W0 at *
  have hB1 : ¬ w1.heap.size = B := by have := HT.out.lt; have := HB.out.size; omega
  have HEND := hide hend
  clear ht1
  go_region_law
    ((go_simp; go_at_call 57; refine (clone_any (s.extract st en) _ (by have := HZ.out; have := HS.out; omega)).mono ?_; rintro e w3 ⟨rfl, hb3⟩
      have HB3 : Hid (Below W0.heap.size W0 w3) := ⟨hb3.os, hb3.tape, hb3.output, hb3.size, hb3.block⟩
      have hp3 : w3.cell? ⟨B, 1, none⟩ = some lv := by rw [HB3.out.cell HD.out.lt]; exact HD.out.parts
      have hp3b : ∀ o, (w3.alloc o).cell? ⟨B, 1, none⟩ = some lv := fun o => by rw [(below_alloc w3 o).cell (Nat.lt_of_lt_of_le HD.out.lt HB3.out.size)]; exact hp3
      clear hb3 ht2 hst0 hend))
  all_goals
    go_wp2_with (at_builtin; go_must (refine wpList_append_lies _ rfl (.tmp 48) (.tmp 51) 22 rfl (B + 1) 24 i0 _ 3 32 Try.underlying22 hi hz0 hz1 hz2 rfl (by omega) lv ps.length (pcells ps) rfl ((HD.out.keep HB3.out).keep (below_alloc w3 _)).own ⟨w3.heap.size, 0, none⟩ 1 1 (pcell (false, 0, s.extract st en)) (by rfl) (by rfl) (pcell_news w3 (false, 0, s.extract st en)) (by simp [pcell, Value.oneCell']) (by omega) (by have := HP.out; unfold maxLen; omega) (by have := HP.out; omega) (by have := HD.out.lt; have := HB3.out.size; simp; omega) _ rfl ?_); intro g4 c4 w4 ho4 hg4 hat4 hlt4; go_must (have HF := hide (push_facts (p := (false, 0, s.extract st en)) HD.out HB3.out ho4 hg4 hat4)); have hp4 := HF.out.1; have hf4 := HF.out.2.1; have he4 : w4.cell? ⟨w1.heap.size, 2, none⟩ = some (.int .i64 (en : Int)) := (by rw [World.cell?_of_block (w := W0) (HF.out.2.2.1 w1.heap.size HSZ.out (fun e => absurd (HT.out.row_lt _ e) (by have := HB.out.size; omega)))]; exact HEND.out); clear ho4 hg4 hat4 hlt4)
    go_ret2
    exact ⟨rfl, _, (Fr.of_below HW.out).trans HF.out.2.2.2.2, HF.out.2.2.2.1⟩
end Go.Proofs.Ytoafiieciiijbaa
