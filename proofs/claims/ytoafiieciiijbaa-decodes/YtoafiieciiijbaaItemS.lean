/-
  OUR OWN: items: the reference's cut, whole.
-/
import Derived.Test.YtoafiieciiijbaaItemR
namespace Go.Proofs.Ytoafiieciiijbaa
open Go.RowKit

theorem span_width (t : ByteArray) (z limit : Nat) (h : (spanN t 0 z limit).2 = 0) (hz : z ≠ 1) : (spanN t 0 z limit).1.2 ≠ (spanN t 0 z limit).1.1 + 1 := by
  unfold spanN at h ⊢
  by_cases h1 : z ≤ 55
  · rw [if_pos h1] at h ⊢
    by_cases h2 : limit < 0 + 1 + z
    · rw [if_pos h2] at h; cases h
    · rw [if_neg h2]
      show 0 + 1 + z ≠ 0 + 1 + 1
      omega
  · rw [if_neg h1] at h ⊢
    rcases lenN_cases t (0 + 1) (z - 55) limit with ⟨q1, q2⟩ | ⟨L, q1, q2, q3⟩
    · rw [if_pos (by rcases q2 with e | e <;> rw [e] <;> decide)] at h
      rcases q2 with e | e <;> rw [e] at h <;> cases h
    · rw [q3] at h ⊢
      rw [if_neg (by simp)] at h ⊢
      split at h
      · cases h
      · rename_i hl
        rw [if_neg hl]
        show 0 + 1 + (z - 55) + (L : Int).toNat ≠ 0 + 1 + (z - 55) + 1
        rw [Int.toNat_natCast]
        omega
theorem span_one (t : ByteArray) (limit : Nat) (h : (spanN t 0 1 limit).2 = 0) : spanN t 0 1 limit = ((1, 2), 0) := by
  unfold spanN at h ⊢
  rw [if_pos (by decide)] at h ⊢
  by_cases h2 : limit < 0 + 1 + 1
  · rw [if_pos h2] at h; cases h
  · rw [if_neg h2]
theorem span_split (t : ByteArray) (z limit : Nat) (h : (spanN t 0 z limit).2 = 0) : spanN t 0 z limit = (((spanN t 0 z limit).1.1, (spanN t 0 z limit).1.2), 0) := by
  rw [← h]

theorem cut_text_post {r a en : Nat} {w w' : World} {b : ByteArray} {n : Int} (hn : n = ((en - a : Nat) : Int)) (hb : Below w.heap.size w w') : CutPost r (.ok ([(false, 0, b)], en)) a w (.returned (.tuple #[.agg #[.bool false, .string b, .slice none 0 0], .int .i64 n, .int .i64 0])) w' := by
  subst hn
  exact ⟨.bool false, .string b, .slice none 0 0, rfl, ItIs.text r w' _ b, hb⟩
theorem cut_step (s : ByteArray) (hs : s.size ≤ 6000) (r d : Nat) (hrd : d + r = 8) (ih : ∀ r', r = r' + 1 → CutOk s r' (d + 1)) : CutOk s r d := by
  intro a limit w ha hl
  rw [readN_eq]
  unfold readStep
  have hts := ext_size s a limit ha hl
  by_cases h1 : limit ≤ a
  · rw [if_pos h1, empty_of_size (s := s.extract a limit) (by omega)]
    exact cut_empty d w
  · rw [if_neg h1]
    have hb0 : byteN (s.extract a limit) 0 = byteN s a := ext_get s a limit 0 (by omega) hl
    by_cases h2 : byteN s a < 128
    · rw [if_pos h2]
      refine (cut_own (s.extract a limit) d w (by omega) (by omega)).mono ?_
      rintro e w' ⟨rfl, hb⟩
      rw [ext_ext s a limit 0 1 (by omega)]
      exact cut_text_post (by omega) hb
    · rw [if_neg h2]
      by_cases h3 : byteN s a < 192
      · rw [if_pos h3]
        obtain ⟨e2, e1⟩ := span_ext s a (byteN s a - 128) limit (by omega) hl
        unfold textN
        by_cases h4 : (spanN s a (byteN s a - 128) limit).2 = 0
        · rw [if_neg (by simpa using h4)]
          obtain ⟨ex, ey⟩ := e1 h4
          rw [h4] at e2
          have h5 := span_ok (s.extract a limit) 0 (byteN s a - 128) (s.extract a limit).size e2
          have hsp := span_split _ _ _ e2
          rw [← ex, ← ey, ← ext_ext s a limit _ _ (by omega)]
          by_cases hz1 : byteN s a - 128 = 1
          · rw [hz1] at hsp e2 h5 ⊢
            have h6 := span_one _ _ e2
            rw [h6] at h5 ⊢
            have h7 : 2 ≤ (s.extract a limit).size := h5.2.2
            have hx : byteN ((s.extract a limit).extract 1 2) 0 = byteN (s.extract a limit) 1 := ext_get _ 1 2 0 (by omega) h7
            have hy : ((s.extract a limit).extract 1 2).size = 1 := by rw [ext_size _ 1 2 (by omega) h7]
            by_cases hf : byteN (s.extract a limit) 1 < 128
            · rw [if_pos (by show ownC _ = true; unfold ownC; rw [hx, hy]; simp [hf])]
              exact cut_textF (s.extract a limit) d w (by omega) (by omega) (by omega) h7 hf h6
            · rw [if_neg (by show ¬ ownC _ = true; unfold ownC; rw [hx, hy]; simp; omega)]
              refine (cut_textG (s.extract a limit) d 1 2 w (by omega) (by omega) (by omega) h7 (by omega) (by omega) h7 h6).mono ?_
              rintro e w' ⟨rfl, hb⟩
              exact cut_text_post (by show ((2 : Nat) : Int) = ((a + 2 - a : Nat) : Int); omega) hb
          · have hw := span_width _ _ _ e2 hz1
            have hy := ext_size (s.extract a limit) _ _ h5.2.1 h5.2.2
            have hne : ¬ ((s.extract a limit).extract (spanN (s.extract a limit) 0 (byteN s a - 128) (s.extract a limit).size).1.1 (spanN (s.extract a limit) 0 (byteN s a - 128) (s.extract a limit).size).1.2).size = 1 := by rw [hy]; omega
            rw [if_neg (by show ¬ ownC _ = true; unfold ownC; rw [decide_eq_false hne, Bool.false_and]; exact Bool.false_ne_true)]
            refine (cut_textK (s.extract a limit) d (byteN s a - 128) _ _ w (by omega) (by omega) (by omega) (by omega) hz1 h5.2.1 h5.2.2 hsp).mono ?_
            rintro e w' ⟨rfl, hb⟩
            exact cut_text_post (by omega) hb
        · rw [if_pos h4]
          have h5 := span_bad (s.extract a limit) 0 (byteN s a - 128) (s.extract a limit).size (by rw [e2]; exact h4)
          exact cut_textE (s.extract a limit) d (byteN s a - 128) w (by omega) (by omega) (by omega) (by omega) _ h4 (by rw [← e2, ← h5])
      · rw [if_neg h3]
        have h256 := byteN_lt s a
        obtain ⟨e2, e1⟩ := span_ext s a (byteN s a - 192) limit (by omega) hl
        by_cases h4 : (spanN s a (byteN s a - 192) limit).2 = 0
        · rw [if_neg (by simpa using h4)]
          obtain ⟨ex, ey⟩ := e1 h4
          rw [h4] at e2
          have h5 := span_ok (s.extract a limit) 0 (byteN s a - 192) (s.extract a limit).size e2
          have hsp := span_split _ _ _ e2
          rw [← ex, ← ey]
          cases r with
          | zero => exact cut_listD (s.extract a limit) d (byteN s a - 192) _ _ w (by omega) (by omega) (by omega) (by omega) (by omega) hsp
          | succ r => exact cut_list s hs r d a limit (ih r rfl) (by omega) (by omega) hl _ rfl (byteN s a - 192) _ _ w (by omega) (by omega) h5.2.1 h5.2.2 (by omega) hsp
        · rw [if_pos h4]
          have h5 := span_bad (s.extract a limit) 0 (byteN s a - 192) (s.extract a limit).size (by rw [e2]; exact h4)
          exact cut_listE (s.extract a limit) d (byteN s a - 192) w (by omega) (by omega) (by omega) (by omega) _ h4 (by rw [← e2, ← h5])
theorem cut_any (s : ByteArray) (hs : s.size ≤ 6000) : ∀ (r d : Nat), d + r = 8 → CutOk s r d
  | 0, d, h => cut_step s hs 0 d h (fun _ e => by cases e)
  | r + 1, d, h => cut_step s hs (r + 1) d h (fun r' e => by cases e; exact cut_any s hs r (d + 1) (by omega))
end Go.Proofs.Ytoafiieciiijbaa
