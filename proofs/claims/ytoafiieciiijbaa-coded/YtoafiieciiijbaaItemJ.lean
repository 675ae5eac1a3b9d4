/-
  OUR OWN: items: read, whole.
-/
import Derived.Test.YtoafiieciiijbaaItemF
import Derived.Test.YtoafiieciiijbaaItemI
import Derived.Deep.RegionLaw
namespace Go.Proofs.Ytoafiieciiijbaa
open Go.RowKit
attribute [local go_sem ↓] Go.wp_at_zero Go.wp_at_succ

theorem post_of_list {s : ByteArray} {res : Except Int (List Prt × Nat)} {B en : Nat} {lv : Value} {ps : List Prt} {w W0 w6 : World} {x : Int} (hw : Below w.heap.size w W0) (hres : ∀ qs e, res = .ok (qs, e) → e = en) (h : ListPost s res B lv ps W0.drew (.returned (.int .i64 x)) w6) :
    ReadPost s res B lv ps w (.returned (.tuple #[.int .i64 (en : Int), .int .i64 x])) w6 := by
  have hf : Fr B lv lv w W0.drew := Fr.of_below hw.drew
  cases res with
  | error y =>
    obtain ⟨h1, lv', h2⟩ := h
    injection h1 with h1
    injection h1 with _ h1
    subst h1
    exact ⟨⟨_, rfl⟩, lv', hf.trans h2⟩
  | ok y =>
    obtain ⟨qs, e⟩ := y
    obtain ⟨h1, lv', h2, h3⟩ := h
    injection h1 with h1
    injection h1 with _ h1
    subst h1
    obtain rfl := hres qs e rfl
    exact ⟨rfl, lv', hf.trans h2, h3⟩

set_option maxHeartbeats 4000000 in
set_option maxRecDepth 20000 in
theorem read_list (s : ByteArray) (B a limit d st en : Nat) (lv : Value) (ps : List Prt) (w : World) (hst : St w B s lv ps) (res : Except Int (List Prt × Nat)) (hres : ∀ qs e, res = .ok (qs, e) → e = en)
    (hl : ∀ W, St W B s lv ps → Calls Try.prog 61 #[.pointer (some ⟨B, 0, none⟩), hd true st en, .int .i64 (d : Int)] W fun e w' => ListPost s res B lv ps W e w')
    (hh : ∀ W, Calls Try.prog 60 #[.string s, .int .i64 (a : Int), .int .i64 (limit : Int)] W fun e w' => e = .returned (.tuple #[hd true st en, .int .i64 0]) ∧ Below W.heap.size W w') :
    Calls Try.prog 48 #[.pointer (some ⟨B, 0, none⟩), .int .i64 (a : Int), .int .i64 (limit : Int), .int .i64 (d : Int)] w fun e w' => ReadPost s res B lv ps w e w' := by
  have HH := hide hh
  have HT := hide hst
  have ht := hst.text
  have HL : Hid (∀ W, St W B s lv ps → Calls Try.prog 61 #[.pointer (some ⟨B, 0, none⟩), .agg #[.bool true, .int .i64 (st : Int), .int .i64 (en : Int)], .int .i64 (d : Int)] W fun e w' => ∃ (x : Int) (lv' : Value), e = .returned (.int .i64 x) ∧ Fr B lv lv' W w' ∧ ListPost s res B lv ps W e w') := by
    intro W hW
    refine (hl W hW).mono ?_
    intro e w' h
    cases res with
    | error x => exact ⟨x, h.2.choose, h.1, h.2.choose_spec, h⟩
    | ok y => exact ⟨0, h.2.choose, h.1, h.2.choose_spec.1, h⟩
  have HRES := hide hres
  clear hh hst hl hres
  go_enter Try.func48, Try.ntmps48
  go_wp2_with fail
  refine (HH.out _).mono ?_
  rintro e w1 ⟨rfl, hb⟩
  have HB := hide hb
  unfold hd
  go_wp2_with fail
  have HW : Hid (Below w.heap.size w (w1.alloc (.cells #[.bool true, .int .i64 (st : Int), .int .i64 (en : Int)] 113))) := HB.out.alloc HB.out.size _
  have HT1 : Hid (St ((w1.alloc (.cells #[.bool true, .int .i64 (st : Int), .int .i64 (en : Int)] 113)).drew) B s lv ps) := by
    have h1 := (HT.out.keep HB.out).keep (below_alloc w1 (.cells #[.bool true, .int .i64 (st : Int), .int .i64 (en : Int)] 113))
    exact ⟨h1.blk, h1.own⟩
  have HX : Hid ((w1.alloc (.cells #[.bool true, .int .i64 (st : Int), .int .i64 (en : Int)] 113)).heap[w1.heap.size]? = some (.cells #[.bool true, .int .i64 (st : Int), .int .i64 (en : Int)] 113 (0, 0))) := heap_alloc_new w1 _
  have hB1 : ¬ w1.heap.size = B := by have := HT.out.lt; have := hb.size; omega
  have hB2 : ∀ k, lv.ownBlock = some k → k < w1.heap.size := fun k e => Nat.lt_of_lt_of_le (HT.out.row_lt k e) hb.size
  have HB2 := hide (And.intro hB1 hB2)
  clear hb hB1 hB2 ht
  go_region_law ((go_simp; go_at_call 61; refine (HL.out _ HT1.out).mono ?_; rintro e w6 ⟨x, lk6, rfl, hf6, hpost⟩; have HF6 := hide hf6; have HPO := hide hpost; have hx6 : w6.cell? ⟨w1.heap.size, 2, none⟩ = some (.int .i64 (en : Int)) := cell_of_row w6 _ 2 _ _ (0, 0) ((hf6.block w1.heap.size (by show _ < (w1.alloc _).heap.size; simp) HB2.out.1 (fun e => absurd (HB2.out.2 _ e) (Nat.lt_irrefl _))).trans HX.out); clear hf6 hpost))
  all_goals
    go_wp2
    go_ret2
    exact post_of_list HW.out HRES.out HPO.out

theorem ReadPost.of_ok {s : ByteArray} {B en : Nat} {lv : Value} {ps qs : List Prt} {w w' : World} {e : Ending} (h : e = .returned (.tuple #[.int .i64 (en : Int), .int .i64 0]) ∧ ∃ lv', Fr B lv lv' w w' ∧ St w' B s lv' (ps ++ qs)) : ReadPost s (.ok (qs, en)) B lv ps w e w' := h
theorem ReadPost.of_error {s : ByteArray} {B : Nat} {n x : Int} {lv : Value} {ps : List Prt} {w w' : World} {e : Ending} (h : e = .returned (.tuple #[.int .i64 n, .int .i64 x]) ∧ Below w.heap.size w w') : ReadPost s (.error x) B lv ps w e w' :=
  ⟨⟨n, h.1⟩, lv, Fr.of_below h.2⟩

theorem sp_eq {x : (Nat × Nat) × Int} {e : Int} (h : x.2 = e) : x = ((x.1.1, x.1.2), e) := by rw [← h]
theorem sp_eq0 {x : (Nat × Nat) × Int} {p : Nat × Nat} (h : x.1 = p) : x = (p, x.2) := by rw [← h]

/-- read, by what readList answers -/
theorem read_step (s : ByteArray) (hs : s.size ≤ 6000) (d : Nat) (inner : Option (Nat → Nat → Except Int (List Prt × Nat)))
    (hin : ∀ (B st en : Nat) (lv : Value) (ps : List Prt) (w : World), St w B s lv ps → st ≤ en → en ≤ s.size → ps.length + 1 ≤ st →
      Calls Try.prog 61 #[.pointer (some ⟨B, 0, none⟩), hd true st en, .int .i64 (d : Int)] w fun e w' => ListPost s (listN inner st en) B lv ps w e w')
    (B a limit : Nat) (lv : Value) (ps : List Prt) (w : World) (hst : St w B s lv ps) (hlim : limit ≤ s.size) (_ha : a ≤ limit) (hps : ps.length ≤ a) :
    Calls Try.prog 48 #[.pointer (some ⟨B, 0, none⟩), .int .i64 (a : Int), .int .i64 (limit : Int), .int .i64 (d : Int)] w fun e w' => ReadPost s (readStep s inner a limit) B lv ps w e w' := by
  unfold readStep
  by_cases h1 : limit ≤ a
  · rw [if_pos h1]
    exact (read_err s B a limit d lv ps 3 (by decide) w hst (fun W => readHead_short s a limit W h1)).mono fun e w' h => ReadPost.of_error h
  · rw [if_neg h1]
    by_cases h2 : byteN s a < 128
    · rw [if_pos h2]
      exact (read_text s B a limit d a (a + 1) lv ps w hst (by omega) (by omega) hs (by omega) (fun W => readHead_own s a limit W hlim hs (by omega) h2)).mono fun e w' h => ReadPost.of_ok h
    · rw [if_neg h2]
      by_cases h3 : byteN s a < 192
      · rw [if_pos h3]
        have hh := fun W => readHead_text s a (byteN s a - 128) limit W hlim hs (by omega) (by omega) (by omega)
        unfold textN
        by_cases h4 : (spanN s a (byteN s a - 128) limit).2 = 0
        · rw [if_neg (by simpa using h4)]
          have h5 := span_ok s a _ limit h4
          have hsp : spanN s a (byteN s a - 128) limit = (((spanN s a (byteN s a - 128) limit).1.1, (spanN s a (byteN s a - 128) limit).1.2), 0) := sp_eq h4
          by_cases h6 : ownC (s.extract (spanN s a (byteN s a - 128) limit).1.1 (spanN s a (byteN s a - 128) limit).1.2) = true
          · rw [if_pos h6]
            rw [headT_own hsp h6] at hh
            exact (read_err s B a limit d lv ps 4 (by decide) w hst (fun W => by simpa using hh W)).mono fun e w' h => ReadPost.of_error h
          · rw [if_neg h6]
            have h7 := Bool.eq_false_iff.2 h6
            rw [headT_good hsp h7] at hh
            exact (read_text s B a limit d _ _ lv ps w hst h5.2.1 (by omega) hs (by omega) (fun W => by simpa using hh W)).mono fun e w' h => ReadPost.of_ok h
        · rw [if_pos h4]
          have h5 : (spanN s a (byteN s a - 128) limit).1 = (0, 0) := span_bad s a _ limit h4
          have hsp : spanN s a (byteN s a - 128) limit = ((0, 0), (spanN s a (byteN s a - 128) limit).2) := sp_eq0 h5
          rw [headT_bad hsp h4] at hh
          exact (read_err s B a limit d lv ps _ h4 w hst (fun W => by simpa [h4] using hh W)).mono fun e w' h => ReadPost.of_error h
      · rw [if_neg h3]
        have h256 := byteN_lt s a
        have hh := fun W => readHead_list s a (byteN s a - 192) limit W hlim hs (by omega) (by omega) (by omega)
        by_cases h4 : (spanN s a (byteN s a - 192) limit).2 = 0
        · rw [if_neg (by simpa using h4)]
          have h5 := span_ok s a _ limit h4
          rw [h4] at hh
          exact read_list s B a limit d _ _ lv ps w hst _ (fun qs e h => listN_end h) (fun W hW => hin B _ _ lv ps W hW h5.2.1 (by omega) (by omega)) (fun W => by simpa using hh W)
        · rw [if_pos h4]
          have h5 : (spanN s a (byteN s a - 192) limit).1 = (0, 0) := span_bad s a _ limit h4
          rw [h5] at hh
          exact (read_err s B a limit d lv ps _ h4 w hst (fun W => by simpa [h4] using hh W)).mono fun e w' h => ReadPost.of_error h

/-- read, at every place -/
theorem read_any (s : ByteArray) (hs : s.size ≤ 6000) : ∀ (r d : Nat), d + r = 8 → ReadOk s r d
  | 0, d, hd0, B, a, limit, lv, ps, w, h1, h2, h3, h4 => read_step s hs d none (fun B st en lv ps w _ _ _ _ => readList_deep s B st en d lv ps w (by omega)) B a limit lv ps w h1 h2 h3 h4
  | r + 1, d, hd0, B, a, limit, lv, ps, w, h1, h2, h3, h4 => read_step s hs d (some (readN s r)) (fun B st en lv ps w hst hse hen hps => readList_any s hs r d (read_any s hs r (d + 1) (by omega)) (by omega) B st en lv ps w hst hse hen hps) B a limit lv ps w h1 h2 h3 h4
end Go.Proofs.Ytoafiieciiijbaa
