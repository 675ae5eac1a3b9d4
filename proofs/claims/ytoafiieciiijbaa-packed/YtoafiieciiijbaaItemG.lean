/-
  OUR OWN: items: laws on what the reader answers.
-/
import Derived.Test.YtoafiieciiijbaaItemDp
namespace Go.Proofs.Ytoafiieciiijbaa
open Go.RowKit

theorem itemsA_go {R : Nat → Except Int (List Prt × Nat)} {e m a n b : Nat} {acc ps : List Prt} (h : a < e) (hr : R a = .ok (ps, b)) : itemsA R e (m + 1) a acc n = itemsA R e m b (acc ++ ps) (n + 1) := by
  simp [itemsA, h, hr]
theorem itemsA_bad {R : Nat → Except Int (List Prt × Nat)} {e m a n : Nat} {acc : List Prt} {x : Int} (h : a < e) (hr : R a = .error x) : itemsA R e (m + 1) a acc n = .error x := by
  simp [itemsA, h, hr]
theorem itemsA_end {R : Nat → Except Int (List Prt × Nat)} {e a n : Nat} {acc : List Prt} (h : ¬ a < e) : ∀ m, itemsA R e m a acc n = .ok (acc, n)
  | 0 => rfl
  | m + 1 => by simp [itemsA, h]
theorem itemsA_len {R : Nat → Except Int (List Prt × Nat)} {e : Nat} (hR : ∀ x ps b, x < e → R x = .ok (ps, b) → x + ps.length ≤ b ∧ b ≤ e) :
    ∀ (m a n : Nat) (acc qs : List Prt) (k : Nat), a ≤ e → itemsA R e m a acc n = .ok (qs, k) → qs.length + a ≤ acc.length + e
  | 0, a, n, acc, qs, k, ha, h => by
    simp [itemsA] at h
    rw [← h.1]; omega
  | m + 1, a, n, acc, qs, k, ha, h => by
    by_cases hl : a < e
    · cases hr : R a with
      | error x => rw [itemsA_bad hl hr] at h; cases h
      | ok y =>
        obtain ⟨ps, b⟩ := y
        have h1 := hR a ps b hl hr
        rw [itemsA_go hl hr] at h
        have h2 := itemsA_len hR m b (n + 1) (acc ++ ps) qs k h1.2 h
        rw [List.length_append] at h2
        omega
    · rw [itemsA_end hl] at h
      cases h
      omega
theorem itemsA_err {R : Nat → Except Int (List Prt × Nat)} {e : Nat} (hR : ∀ x y, R x = .error y → y ≠ 0) : ∀ (m a n : Nat) (acc : List Prt) (y : Int), itemsA R e m a acc n = .error y → y ≠ 0
  | 0, a, n, acc, y, h => by simp [itemsA] at h
  | m + 1, a, n, acc, y, h => by
    by_cases hl : a < e
    · cases hr : R a with
      | error x => rw [itemsA_bad hl hr] at h; cases h; exact hR a _ hr
      | ok z =>
        obtain ⟨ps, b⟩ := z
        rw [itemsA_go hl hr] at h
        exact itemsA_err hR m b (n + 1) (acc ++ ps) y h
    · rw [itemsA_end hl] at h; cases h

theorem span_ok (s : ByteArray) (a z limit : Nat) (h : (spanN s a z limit).2 = 0) : a + 1 ≤ (spanN s a z limit).1.1 ∧ (spanN s a z limit).1.1 ≤ (spanN s a z limit).1.2 ∧ (spanN s a z limit).1.2 ≤ limit := by
  unfold spanN at h ⊢
  split at h
  · rename_i hz
    rw [if_pos hz]
    split at h
    · cases h
    · rename_i hl
      rw [if_neg hl]
      refine ⟨Nat.le_refl _, ?_, ?_⟩
      · show a + 1 ≤ a + 1 + z; omega
      · show a + 1 + z ≤ limit; omega
  · rename_i hz
    rw [if_neg hz]
    rcases lenN_cases s (a + 1) (z - 55) limit with ⟨q1, q2⟩ | ⟨L, q1, q2, q3⟩
    · rw [if_pos (by rcases q2 with e | e <;> rw [e] <;> decide)] at h
      rcases q2 with e | e <;> rw [e] at h <;> cases h
    · rw [q3] at h ⊢
      rw [if_neg (by simp)] at h ⊢
      split at h
      · cases h
      · rename_i hl
        rw [if_neg hl]
        refine ⟨?_, ?_, ?_⟩
        · show a + 1 ≤ a + 1 + (z - 55); omega
        · show a + 1 + (z - 55) ≤ a + 1 + (z - 55) + L; omega
        · show a + 1 + (z - 55) + L ≤ limit
          simp at hl
          omega

theorem span_bad (s : ByteArray) (a z limit : Nat) (h : (spanN s a z limit).2 ≠ 0) : (spanN s a z limit).1 = (0, 0) := by
  unfold spanN at h ⊢
  split
  · rename_i hz
    rw [if_pos hz] at h
    split
    · rfl
    · rename_i hl; rw [if_neg hl] at h; exact absurd rfl h
  · rename_i hz
    rw [if_neg hz] at h
    split
    · rfl
    · rename_i h1
      rw [if_neg h1] at h
      split
      · rfl
      · rename_i hl; rw [if_neg hl] at h; exact absurd rfl h
theorem textN_len {s : ByteArray} {a limit en : Nat} {qs : List Prt} (h : textN s a limit = .ok (qs, en)) : a + qs.length ≤ en ∧ en ≤ limit := by
  unfold textN at h
  split at h
  · cases h
  · rename_i h1
    have h2 := span_ok s a _ limit (by simpa using h1)
    split at h
    · cases h
    · cases h; exact ⟨by simp; omega, h2.2.2⟩
theorem textN_err {s : ByteArray} {a limit : Nat} {y : Int} (h : textN s a limit = .error y) : y ≠ 0 := by
  unfold textN at h
  split at h
  · rename_i h1; have e := Except.error.inj h; rw [← e]; exact h1
  · split at h
    · cases h; decide
    · cases h
theorem listN_len {inner : Option (Nat → Nat → Except Int (List Prt × Nat))} {st en e : Nat} {qs : List Prt} (hin : ∀ f, inner = some f → ∀ a limit ps b, f a limit = .ok (ps, b) → a + ps.length ≤ b ∧ b ≤ limit) (hse : st ≤ en) (h : listN inner st en = .ok (qs, e)) : e = en ∧ qs.length + st ≤ en + 1 := by
  unfold listN at h
  split at h
  · cases h
  · rename_i f
    split at h
    · cases h
    · rename_i ps n hi
      cases h
      have h3 := itemsA_len (fun x ps b _ hx => hin f rfl x _ ps b hx) _ _ _ _ _ _ hse hi
      exact ⟨rfl, by simp at h3 ⊢; omega⟩
theorem listN_err {inner : Option (Nat → Nat → Except Int (List Prt × Nat))} {st en : Nat} {y : Int} (hin : ∀ f, inner = some f → ∀ a limit x, f a limit = .error x → x ≠ 0) (h : listN inner st en = .error y) : y ≠ 0 := by
  unfold listN at h
  split at h
  · cases h; decide
  · rename_i f
    split at h
    · rename_i x hi
      cases h
      exact itemsA_err (fun x y hx => hin f rfl x _ y hx) _ _ _ _ _ hi
    · cases h
theorem readStep_len {s : ByteArray} {inner : Option (Nat → Nat → Except Int (List Prt × Nat))} (hin : ∀ f, inner = some f → ∀ a limit ps b, f a limit = .ok (ps, b) → a + ps.length ≤ b ∧ b ≤ limit) {a limit en : Nat} {qs : List Prt} (h : readStep s inner a limit = .ok (qs, en)) : a + qs.length ≤ en ∧ en ≤ limit := by
  unfold readStep at h
  by_cases h1 : limit ≤ a
  · rw [if_pos h1] at h; cases h
  · rw [if_neg h1] at h
    by_cases h2 : byteN s a < 128
    · rw [if_pos h2] at h; cases h; exact ⟨Nat.le_refl _, by omega⟩
    · rw [if_neg h2] at h
      by_cases h3 : byteN s a < 192
      · rw [if_pos h3] at h; exact textN_len h
      · rw [if_neg h3] at h
        by_cases h4 : (spanN s a (byteN s a - 192) limit).2 = 0
        · rw [if_neg (by simpa using h4)] at h
          have h5 := span_ok s a _ limit h4
          have h6 := listN_len hin h5.2.1 h
          exact ⟨by omega, by omega⟩
        · rw [if_pos h4] at h; cases h
theorem readStep_err {s : ByteArray} {inner : Option (Nat → Nat → Except Int (List Prt × Nat))} (hin : ∀ f, inner = some f → ∀ a limit x, f a limit = .error x → x ≠ 0) {a limit : Nat} {y : Int} (h : readStep s inner a limit = .error y) : y ≠ 0 := by
  unfold readStep at h
  by_cases h1 : limit ≤ a
  · rw [if_pos h1] at h; cases h; decide
  · rw [if_neg h1] at h
    by_cases h2 : byteN s a < 128
    · rw [if_pos h2] at h; cases h
    · rw [if_neg h2] at h
      by_cases h3 : byteN s a < 192
      · rw [if_pos h3] at h; exact textN_err h
      · rw [if_neg h3] at h
        by_cases h4 : (spanN s a (byteN s a - 192) limit).2 = 0
        · rw [if_neg (by simpa using h4)] at h
          exact listN_err hin h
        · rw [if_pos h4] at h; have e := Except.error.inj h; rw [← e]; exact h4
theorem readN_len (s : ByteArray) : ∀ (r a limit : Nat) (qs : List Prt) (en : Nat), readN s r a limit = .ok (qs, en) → a + qs.length ≤ en ∧ en ≤ limit
  | 0, _, _, _, _, h => readStep_len (inner := none) (fun _ e => by cases e) h
  | r + 1, _, _, _, _, h => readStep_len (inner := some (readN s r)) (fun f e => by cases e; exact readN_len s r) h
theorem readN_err (s : ByteArray) : ∀ (r a limit : Nat) (y : Int), readN s r a limit = .error y → y ≠ 0
  | 0, _, _, _, h => readStep_err (inner := none) (fun _ e => by cases e) h
  | r + 1, _, _, _, h => readStep_err (inner := some (readN s r)) (fun f e => by cases e; exact readN_err s r) h
theorem listN_end {inner : Option (Nat → Nat → Except Int (List Prt × Nat))} {st en e : Nat} {qs : List Prt} (h : listN inner st en = .ok (qs, e)) : e = en := by
  unfold listN at h
  split at h
  · cases h
  · split at h
    · cases h
    · cases h; rfl
theorem readStep_pos {s : ByteArray} {inner : Option (Nat → Nat → Except Int (List Prt × Nat))} {a limit en : Nat} {qs : List Prt} (h : readStep s inner a limit = .ok (qs, en)) : a < en := by
  unfold readStep at h
  by_cases h1 : limit ≤ a
  · rw [if_pos h1] at h; cases h
  · rw [if_neg h1] at h
    by_cases h2 : byteN s a < 128
    · rw [if_pos h2] at h; cases h; omega
    · rw [if_neg h2] at h
      by_cases h3 : byteN s a < 192
      · rw [if_pos h3] at h
        unfold textN at h
        split at h
        · cases h
        · rename_i h1
          have h2 := span_ok s a _ limit (by simpa using h1)
          split at h
          · cases h
          · cases h; omega
      · rw [if_neg h3] at h
        by_cases h4 : (spanN s a (byteN s a - 192) limit).2 = 0
        · rw [if_neg (by simpa using h4)] at h
          have h5 := span_ok s a _ limit h4
          have h6 := listN_end h
          omega
        · rw [if_pos h4] at h; cases h
theorem readN_pos (s : ByteArray) (r a limit : Nat) (qs : List Prt) (en : Nat) (h : readN s r a limit = .ok (qs, en)) : a < en := by
  rw [readN_eq] at h
  exact readStep_pos h
end Go.Proofs.Ytoafiieciiijbaa
