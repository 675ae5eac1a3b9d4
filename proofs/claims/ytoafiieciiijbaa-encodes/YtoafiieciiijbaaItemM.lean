/-
  OUR OWN: items: a piece of a text read by itself.
-/
import Derived.Test.YtoafiieciiijbaaItemL
namespace Go.Proofs.Ytoafiieciiijbaa
open Go.RowKit

theorem ext_get (s : ByteArray) (a limit i : Nat) (h : a + i < limit) (hl : limit ≤ s.size) : byteN (s.extract a limit) i = byteN s (a + i) := by
  have h1 : i < (s.extract a limit).size := by rw [ext_size s a limit (by omega) hl]; omega
  rw [← byteN_eq _ i h1, ← byteN_eq s (a + i) (by omega)]
  simp [ByteArray.getElem_extract]
theorem num_ext (s : ByteArray) (a limit b : Nat) (hl : limit ≤ s.size) : ∀ k, a + b + k ≤ limit → numN (s.extract a limit) b k = numN s (a + b) k
  | 0, _ => rfl
  | k + 1, h => by
    rw [numN, numN, num_ext s a limit b hl k (by omega), ext_get s a limit (b + k) (by omega) hl, Nat.add_assoc]
theorem len_ext (s : ByteArray) (a limit b k : Nat) (hl : limit ≤ s.size) (hab : a + b ≤ limit) (hk : 1 ≤ k) : lenN (s.extract a limit) b k (limit - a) = lenN s (a + b) k limit := by
  unfold lenN
  by_cases h : limit < a + b + k
  · rw [if_pos h, if_pos (by omega)]
  · rw [if_neg h, if_neg (by omega), num_ext s a limit b hl k (by omega), ext_get s a limit b (by omega) hl]
/-- a piece by itself: the same, by so much earlier -/
theorem span_ext (s : ByteArray) (a z limit : Nat) (ha : a < limit) (hl : limit ≤ s.size) :
    (spanN (s.extract a limit) 0 z (s.extract a limit).size).2 = (spanN s a z limit).2 ∧
    ((spanN s a z limit).2 = 0 → a + (spanN (s.extract a limit) 0 z (s.extract a limit).size).1.1 = (spanN s a z limit).1.1 ∧ a + (spanN (s.extract a limit) 0 z (s.extract a limit).size).1.2 = (spanN s a z limit).1.2) := by
  rw [ext_size s a limit (by omega) hl]
  unfold spanN
  by_cases h1 : z ≤ 55
  · rw [if_pos h1, if_pos h1]
    by_cases h2 : limit < a + 1 + z
    · rw [if_pos h2, if_pos (by omega)]
      exact ⟨rfl, fun h => by cases h⟩
    · rw [if_neg h2, if_neg (by omega)]
      exact ⟨rfl, fun _ => ⟨by show a + (0 + 1) = a + 1; omega, by show a + (0 + 1 + z) = a + 1 + z; omega⟩⟩
  · rw [if_neg h1, if_neg h1, show 0 + 1 = 1 from rfl, len_ext s a limit 1 (z - 55) hl (by omega) (by omega)]
    by_cases h2 : (lenN s (a + 1) (z - 55) limit).2 = 0
    · have hc : ¬ (lenN s (a + 1) (z - 55) limit).2 ≠ 0 := by simpa using h2
      rw [if_neg hc, if_neg hc]
      rcases lenN_cases s (a + 1) (z - 55) limit with ⟨q1, q2⟩ | ⟨L, q1, q2, q3⟩
      · rcases q2 with e | e <;> rw [e] at h2 <;> cases h2
      · rw [q3]
        simp only [Int.toNat_natCast]
        by_cases h3 : (limit : Int) < ((a + 1 + (z - 55) : Nat) : Int) + (L : Int)
        · have h4 : ((limit - a : Nat) : Int) < ((1 + (z - 55) : Nat) : Int) + (L : Int) := by omega
          rw [if_pos h3, if_pos h4]
          exact ⟨rfl, fun h => by cases h⟩
        · have h4 : ¬ ((limit - a : Nat) : Int) < ((1 + (z - 55) : Nat) : Int) + (L : Int) := by omega
          rw [if_neg h3, if_neg h4]
          exact ⟨rfl, fun _ => ⟨by show a + (1 + (z - 55)) = a + 1 + (z - 55); omega, by show a + (1 + (z - 55) + L) = a + 1 + (z - 55) + L; omega⟩⟩
    · rw [if_pos h2, if_pos h2]
      exact ⟨rfl, fun h => absurd h h2⟩
theorem ext_ext (s : ByteArray) (a limit x y : Nat) (h : a + y ≤ limit) : (s.extract a limit).extract x y = s.extract (a + x) (a + y) := by
  apply ByteArray.ext
  rw [ByteArray.data_extract, ByteArray.data_extract, ByteArray.data_extract, Array.extract_extract, Nat.min_eq_left h]
end Go.Proofs.Ytoafiieciiijbaa
