/-
  OUR OWN: items: the reference's span.
-/
import Derived.Test.YtoafiieciiijbaaItemG
namespace Go.Proofs.Ytoafiieciiijbaa
open Go.RowKit
attribute [local go_sem ↓] Go.wp_at_zero Go.wp_at_succ

/-- the number, cut down -/
def capN (t : ByteArray) (q : Nat) : Nat := min (numN t 1 q) 1099511627776
theorem cap_le (t : ByteArray) (q : Nat) : capN t q ≤ 1099511627776 := Nat.min_le_right _ _
theorem cap_big (t : ByteArray) (q : Nat) (h : 1099511627776 < 256 * capN t q + byteN t (1 + q)) : capN t (q + 1) = 1099511627776 := by
  unfold capN at *
  rw [numN]
  omega
theorem cap_small (t : ByteArray) (q : Nat) (h : ¬ 1099511627776 < 256 * capN t q + byteN t (1 + q)) : capN t (q + 1) = 256 * capN t q + byteN t (1 + q) := by
  unfold capN at *
  rw [numN]
  omega

theorem len_ok {t : ByteArray} {k : Nat} (h1 : ¬ t.size < 1 + k) (h2 : byteN t 1 ≠ 0) (h3 : ¬ capN t k < 56) : lenN t 1 k t.size = (((min (numN t 1 k) 6001 : Nat) : Int), 0) := by
  have h4 : ¬ numN t 1 k ≤ 55 := by unfold capN at h3; omega
  rw [lenN, if_neg h1, if_neg h2, if_neg h4]
theorem len_bad {t : ByteArray} {k : Nat} (h1 : ¬ t.size < 1 + k) (h2 : byteN t 1 = 0 ∨ capN t k < 56) : lenN t 1 k t.size = (0, 4) := by
  rw [lenN, if_neg h1]
  by_cases h3 : byteN t 1 = 0
  · rw [if_pos h3]
  · rw [if_neg h3, if_pos]
    have := h2.resolve_left h3
    unfold capN at this
    omega

set_option maxHeartbeats 2000000 in
set_option maxRecDepth 20000 in
theorem span_short (t : ByteArray) (z : Nat) (w : World) (_ht : t.size ≤ 6000) (hz : z ≤ 55) :
    Calls Try.prog 62 #[.string t, .int .i64 (z : Int)] w fun e w' => e = .returned (.tuple #[.int .i64 ((spanN t 0 z t.size).1.1 : Int), .int .i64 ((spanN t 0 z t.size).1.2 : Int), .int .i64 (spanN t 0 z t.size).2]) ∧ w' = w := by
  have c1 : (z : Int) ≤ 55 := by omega
  by_cases h : t.size < 0 + 1 + z
  · have HE : Hid (spanN t 0 z t.size = ((0, 0), 3)) := by show _ = _; rw [spanN, if_pos hz, if_pos h]
    have c2 : (t.size : Int) < 1 + (z : Int) := by omega
    clear h
    go_enter Try.func62, Try.ntmps62
    go_wp2
    go_ret3
    exact ⟨by rw [HE.out]; rfl, rfl⟩
  · have HE : Hid (spanN t 0 z t.size = ((0 + 1, 0 + 1 + z), 0)) := by show _ = _; rw [spanN, if_pos hz, if_neg h]
    have c2 : 1 + (z : Int) ≤ (t.size : Int) := by omega
    have HV : Hid (((0 + 1 + z : Nat) : Int) = 1 + (z : Int)) := by show _ = _; omega
    clear h
    go_enter Try.func62, Try.ntmps62
    go_wp2
    go_ret3
    exact ⟨by rw [HE.out]; show _ = Ending.returned (.tuple #[.int .i64 1, .int .i64 ((0 + 1 + z : Nat) : Int), .int .i64 0]); rw [HV.out]; rfl, rfl⟩

set_option maxHeartbeats 2000000 in
set_option maxRecDepth 20000 in
theorem span_long (t : ByteArray) (z k : Nat) (w : World) (ht : t.size ≤ 6000) (hz : z = 55 + k) (hk0 : 1 ≤ k) (hk : k ≤ 8) :
    Calls Try.prog 62 #[.string t, .int .i64 (z : Int)] w fun e w' => e = .returned (.tuple #[.int .i64 ((spanN t 0 z t.size).1.1 : Int), .int .i64 ((spanN t 0 z t.size).1.2 : Int), .int .i64 (spanN t 0 z t.size).2]) ∧ w' = w := by
  have HS : Hid (spanN t 0 z t.size = if (lenN t 1 k t.size).2 ≠ 0 then ((0, 0), (lenN t 1 k t.size).2) else if (t.size : Int) < ((1 + k : Nat) : Int) + (lenN t 1 k t.size).1 then ((0, 0), 3) else ((1 + k, 1 + k + (lenN t 1 k t.size).1.toNat), 0)) := by
    show _ = _
    rw [spanN, if_neg (by omega), show z - 55 = k from by omega]
  rw [show (z : Int) = 55 + (k : Int) from by omega]
  have k0 : (0 : Int) < (k : Int) := by omega
  have k8 : (k : Int) ≤ 8 := by omega
  by_cases h1 : t.size < 1 + k
  · have HE : Hid (spanN t 0 z t.size = ((0, 0), 3)) := by
      show _ = _; rw [HS.out]; simp [lenN, h1]
    have c2 : (t.size : Int) < 1 + (k : Int) := by omega
    clear h1 HS
    go_enter Try.func62, Try.ntmps62
    go_wp2
    go_ret3
    exact ⟨by rw [HE.out]; rfl, rfl⟩
  · have c2 : 1 + (k : Int) ≤ (t.size : Int) := by omega
    have h11 : 1 < t.size := by omega
    have HB1 := hide (byteN_eq t 1 h11)
    have HH1 := hide h1
    have HT := hide ht
    have c4 : (t.size : Int) ≤ 6000 := by omega
    have c3 : (1 : Int) < (t.size : Int) := by omega
    have e8 : (55 + (k : Int) - 55) = (k : Int) := by omega
    clear h1
    have d1 : decide (55 < 55 + (k : Int)) = true := by simp; omega
    have d2 : decide ((t.size : Int) < 1 + (k : Int)) = false := by simp; omega
    go_enter Try.func62, Try.ntmps62
    go_wp2
    clear d1 d2
    go_loopw [1, 9] (fun v i wr => ∃ q : Nat, q ≤ k ∧ i = .int .i64 ((q + 1 : Nat) : Int) ∧ v = .int .i64 ((capN t q : Nat) : Int) ∧ wr = w) (fun _ i _ => k + 1 - (intOf i).toNat)
    case atStart => exact ⟨0, Nat.zero_le _, rfl, rfl, rfl⟩
    case round =>
      obtain ⟨q, hq, rfl, rfl, rfl⟩ := hrel
      by_cases hlt : q < k
      · have h5 : q + 1 < t.size := by omega
        have HB2 := hide (byteN_eq t (q + 1) h5)
        have hb3 := byteN_lt t (q + 1)
        have b1 : (((q + 1 : Nat) : Int)) ≤ (k : Int) := by omega
        have b2 : (0 : Int) ≤ ((q + 1 : Nat) : Int) := by omega
        have b3 : ((q + 1 : Nat) : Int) < (t.size : Int) := by omega
        have HC := hide (And.intro (cap_big t q) (cap_small t q))
        have hc0 := cap_le t q
        have ec : 1 + q = q + 1 := by omega
        rw [ec] at HC
        have hcI : ((capN t q : Nat) : Int) ≤ 1099511627776 := by omega
        have hcJ : (0 : Int) ≤ ((capN t q : Nat) : Int) := by omega
        have hbI : (t[q + 1].toNat : Int) < 256 := by rw [HB2.out]; omega
        have hbJ : (0 : Int) ≤ (t[q + 1].toNat : Int) := by omega
        have k1 : IntKind.i64.wrap (t[q + 1].toNat : Int) = (t[q + 1].toNat : Int) := by rw [IntKind.wrap_i64]; omega
        go_wp2
        all_goals go_roundw
        case rel => exact ⟨q + 1, by omega, by go_num, by rename_i h; rw [HC.out.1 (by have := HB2.out; omega)]; rfl, trivial⟩
        case measure => simp [intOf]; omega
        case rel => exact ⟨q + 1, by omega, by go_num, by rename_i h; rw [HC.out.2 (by have := HB2.out; omega), ← HB2.out]; rfl, trivial⟩
        case measure => simp [intOf]; omega
      · have hqk : q = k := by omega
        subst hqk
        have hc0 := cap_le t q
        have hcI : ((capN t q : Nat) : Int) ≤ 1099511627776 := by omega
        have hcJ : (0 : Int) ≤ ((capN t q : Nat) : Int) := by omega
        have b1 : decide (((q + 1 : Nat) : Int) ≤ (q : Int)) = false := by simp; omega
        by_cases h3 : byteN t 1 = 0
        · have HE : Hid (spanN t 0 z t.size = ((0, 0), 4)) := by show _ = _; rw [HS.out, len_bad HH1.out (.inl h3)]; rfl
          have c5 : (t[1].toNat : Int) = 0 := by rw [HB1.out, h3]; rfl
          clear HS
          go_wp2
          go_ret3
          exact ⟨by rw [HE.out]; rfl, rfl⟩
        · have c5 : ((t[1].toNat : Int) == 0) = false := by rw [HB1.out]; simp; omega
          by_cases h4 : capN t q < 56
          · have HE : Hid (spanN t 0 z t.size = ((0, 0), 4)) := by show _ = _; rw [HS.out, len_bad HH1.out (.inr h4)]; rfl
            have c6 : ((capN t q : Nat) : Int) < 56 := by omega
            clear HS
            go_wp2
            go_ret3
            exact ⟨by rw [HE.out]; rfl, rfl⟩
          · have c6 : (56 : Int) ≤ ((capN t q : Nat) : Int) := by omega
            have HL := len_ok HH1.out h3 h4
            rw [HL, if_neg (by simp)] at HS
            by_cases h5 : t.size < 1 + q + capN t q
            · have HE : Hid (spanN t 0 z t.size = ((0, 0), 3)) := by
                show _ = _; rw [HS.out, if_pos (by have := HT.out; unfold capN at h5; show (t.size : Int) < _ + ((min (numN t 1 q) 6001 : Nat) : Int); omega)]
              have c7 : (t.size : Int) < 1 + (q : Int) + ((capN t q : Nat) : Int) := by omega
              clear HS HL h5
              go_wp2
              go_ret3
              exact ⟨by rw [HE.out]; rfl, rfl⟩
            · have HE : Hid (spanN t 0 z t.size = ((1 + q, 1 + q + capN t q), 0)) := by
                show _ = _; rw [HS.out, if_neg (by have := HT.out; unfold capN at h5; show ¬ (t.size : Int) < _ + ((min (numN t 1 q) 6001 : Nat) : Int); omega)]
                have : (min (numN t 1 q) 6001 : Nat) = capN t q := by have := HT.out; unfold capN at h5 ⊢; omega
                show ((1 + q, 1 + q + ((min (numN t 1 q) 6001 : Nat) : Int).toNat), (0 : Int)) = _
                rw [Int.toNat_natCast, this]
              have c7 : 1 + (q : Int) + ((capN t q : Nat) : Int) ≤ (t.size : Int) := by omega
              have HV : Hid (((1 + q : Nat) : Int) = 1 + (q : Int) ∧ ((1 + q + capN t q : Nat) : Int) = 1 + (q : Int) + (capN t q : Int)) := ⟨by omega, by omega⟩
              clear HS HL h5
              go_wp2
              go_ret3
              exact ⟨by rw [HE.out]; show _ = Ending.returned (.tuple #[.int .i64 ((1 + q : Nat) : Int), .int .i64 ((1 + q + capN t q : Nat) : Int), .int .i64 0]); rw [HV.out.1, HV.out.2]; rfl, rfl⟩
theorem span_any (t : ByteArray) (z : Nat) (w : World) (ht : t.size ≤ 6000) (hz : z ≤ 63) :
    Calls Try.prog 62 #[.string t, .int .i64 (z : Int)] w fun e w' => e = .returned (.tuple #[.int .i64 ((spanN t 0 z t.size).1.1 : Int), .int .i64 ((spanN t 0 z t.size).1.2 : Int), .int .i64 (spanN t 0 z t.size).2]) ∧ w' = w := by
  by_cases h : z ≤ 55
  · exact span_short t z w ht h
  · exact span_long t z (z - 55) w ht (by omega) (by omega) (by omega)
end Go.Proofs.Ytoafiieciiijbaa
