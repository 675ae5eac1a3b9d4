/-
  OUR OWN: walks of canopykeep.headed, upTo.
-/
import Derived.Test.YtoafiieciiijbaaKeepB
namespace Go.Proofs.Ytoafiieciiijbaa
open Go.RowKit
attribute [local go_sem ↓] Go.wp_at_zero Go.wp_at_succ

/-- so many bytes, with what stands ahead of them -/
def headN (n : Nat) : Nat := if n ≤ 55 then n + 1 else if n ≤ 255 then n + 2 else if n ≤ 65535 then n + 3 else n + 4
set_option maxRecDepth 20000 in
theorem headed_any (n : Nat) (w : World) (hn : n < 16777216) :
    Calls Try.prog 40 #[.int .i64 (n : Int)] w fun e w' => e = .returned (.int .i64 (headN n : Int)) ∧ w' = w := by
  by_cases h1 : n ≤ 55
  · have HE : Hid (headN n = n + 1) := by show _ = _; simp [headN, h1]
    have c1 : (n : Int) ≤ 55 := by omega
    go_enter Try.func40, Try.ntmps40
    go_wp2
    go_ret
    exact ⟨by rw [HE.out]; go_num, rfl⟩
  · by_cases h2 : n ≤ 255
    · have HE : Hid (headN n = n + 2) := by show _ = _; simp [headN, h1, h2]
      have c1 : 55 < (n : Int) := by omega
      have c2 : (n : Int) ≤ 255 := by omega
      go_enter Try.func40, Try.ntmps40
      go_wp2
      go_ret
      exact ⟨by rw [HE.out]; go_num, rfl⟩
    · by_cases h3 : n ≤ 65535
      · have HE : Hid (headN n = n + 3) := by show _ = _; simp [headN, h1, h2, h3]
        have c1 : 255 < (n : Int) := by omega
        have c2 : (n : Int) ≤ 65535 := by omega
        go_enter Try.func40, Try.ntmps40
        go_wp2
        go_ret
        exact ⟨by rw [HE.out]; go_num, rfl⟩
      · have HE : Hid (headN n = n + 4) := by show _ = _; simp [headN, h1, h2, h3]
        have c1 : 65535 < (n : Int) := by omega
        go_enter Try.func40, Try.ntmps40
        go_wp2
        go_ret
        exact ⟨by rw [HE.out]; go_num, rfl⟩

def upToN (s : ByteArray) (n : Nat) : ByteArray := if n < s.size then s.extract 0 n else s
set_option maxRecDepth 20000 in
theorem upTo_any (s : ByteArray) (n : Nat) (w : World) (_hs : s.size ≤ 9223372036854775807) (hn : n ≤ 1000000) :
    Calls Try.prog 39 #[.string s, .int .i64 (n : Int)] w fun e w' => e = .returned (.string (upToN s n)) ∧ w' = w := by
  by_cases h1 : n < s.size
  · have HE : Hid (upToN s n = s.extract 0 n) := by show _ = _; simp [upToN, h1]
    have c1 : (n : Int) < (s.size : Int) := by omega
    have c2 : (0 : Int) ≤ (n : Int) := by omega
    go_enter Try.func39, Try.ntmps39
    go_wp2
    go_ret
    exact ⟨by rw [HE.out]; rfl, rfl⟩
  · have HE : Hid (upToN s n = s) := by show _ = _; simp [upToN, h1]
    have c1 : (s.size : Int) ≤ (n : Int) := by omega
    go_enter Try.func39, Try.ntmps39
    go_wp2
    go_ret
    exact ⟨by rw [HE.out]; rfl, rfl⟩
theorem upToN_size (s : ByteArray) (n : Nat) : (upToN s n).size ≤ n := by
  unfold upToN; split
  · simp [ByteArray.size_extract]; omega
  · omega
/-- headed is a code's length -/
theorem headN_hdr (mark n : Nat) (hn : n < 16777216) : headN n = n + (hdr mark n).length := by
  have hl : (hdr mark n).length = if n ≤ 55 then 1 else 1 + cntB n := by
    unfold hdr; split
    · rfl
    · simp [lenS_length]; omega
  rw [hl]
  unfold headN cntB
  by_cases h1 : n ≤ 55
  · rw [if_pos h1, if_pos h1]
  · rw [if_neg h1, if_neg h1, if_neg (show ¬ n = 0 by omega)]
    by_cases h2 : n ≤ 255
    · rw [if_pos h2, if_pos (show n < 256 by omega)]
    · rw [if_neg h2, if_neg (show ¬ n < 256 by omega)]
      by_cases h3 : n ≤ 65535
      · rw [if_pos h3, if_pos (show n < 65536 by omega)]
      · rw [if_neg h3, if_neg (show ¬ n < 65536 by omega), if_pos hn]
theorem headS_headN (mark : Nat) (s : ByteArray) (hn : s.size < 16777216) : (headS mark s).size = headN s.size := by
  unfold headS
  rw [ByteArray.size_append, strOfNums_size, headN_hdr mark s.size hn]
  omega
end Go.Proofs.Ytoafiieciiijbaa
