/-
  OUR OWN: VxItemA.
-/
import Derived.Test.YthdjmldddjljfaaGreatDoorG10
import Derived.Laws.Bits64
import Derived.Laws.BitsAllLaws
namespace Go.Proofs.YthdjmldddjljfaaGreatDoor.V
open Go.RowKit
attribute [local go_sem ↓] Go.wp_at_zero Go.wp_at_succ

/-- the byte at a place, as a number -/
def byteN (s : ByteArray) (i : Nat) : Nat := (s.data.toList.getD i 0).toNat
theorem byteN_eq (s : ByteArray) (i : Nat) (h : i < s.size) : s[i].toNat = byteN s i := by
  unfold byteN
  have h2 : i < s.data.toList.length := by rw [Array.length_toList]; exact h
  rw [List.getD_eq_getElem?_getD, List.getElem?_eq_getElem h2]
  rfl
theorem byteN_lt (s : ByteArray) (i : Nat) : byteN s i < 256 := UInt8.toNat_lt _
/-- k bytes from a place on, the greatest first -/
def numN (s : ByteArray) (a : Nat) : Nat → Nat
  | 0 => 0
  | k + 1 => numN s a k * 256 + byteN s (a + k)
theorem numN_lt (s : ByteArray) (a : Nat) : ∀ k, numN s a k < 256 ^ k
  | 0 => by simp [numN]
  | k + 1 => by
    have := numN_lt s a k
    have := byteN_lt s (a + k)
    rw [numN, Nat.pow_succ]
    omega
theorem numN_lt8 (s : ByteArray) (a k : Nat) (h : k ≤ 8) : numN s a k < 18446744073709551616 := by
  have h1 := numN_lt s a k
  have h2 : 256 ^ k ≤ 256 ^ 8 := Nat.pow_le_pow_right (by decide) h
  omega
theorem numN_step (s : ByteArray) (a k : Nat) (h : k < 8) : bits BinOp.or IntKind.u64 (IntKind.u64.wrap ((numN s a k : Nat) * 256)) ((byteN s (a + k) : Nat) : Int) = ((numN s a (k + 1) : Nat) : Int) := by
  have h1 : numN s a (k + 1) < 18446744073709551616 := numN_lt8 s a (k + 1) h
  have hb := byteN_lt s (a + k)
  rw [numN] at h1
  have e1 : IntKind.u64.wrap ((numN s a k : Nat) * 256) = ((numN s a k * 256 : Nat) : Int) := by
    rw [IntKind.wrap_u64]; omega
  have hx : numN s a k * 256 < 18446744073709551616 := Nat.lt_of_le_of_lt (Nat.le_add_right _ _) h1
  rw [e1, u64_or_nat _ _ hx (Nat.lt_trans hb (by decide)), nat_join 8 _ _ (Nat.mul_mod_left _ 256) hb]
  rfl

/-- a length of k bytes -/
def lenN (s : ByteArray) (a k limit : Nat) : Int × Int :=
  if limit < a + k then (0, 3) else if byteN s a = 0 then (0, 4) else if numN s a k ≤ 55 then (0, 4) else ((min (numN s a k) 6001 : Nat), 0)

set_option maxHeartbeats 1000000 in
theorem readLength_any (s : ByteArray) (a k limit : Nat) (w : World) (hl : limit ≤ s.size) (hs : s.size ≤ 6000) (ha : a ≤ limit) (hk0 : 1 ≤ k) (hk : k ≤ 8) :
    Calls Tryz.prog 186 #[.string s, .int .i64 (a : Int), .int .i64 (k : Int), .int .i64 (limit : Int)] w fun e w' => e = .returned (.tuple #[.int .i64 (lenN s a k limit).1, .int .i64 (lenN s a k limit).2]) ∧ ∃ n, w' = w.drewN n := by
  by_cases h1 : limit < a + k
  · have HE : Hid (lenN s a k limit = (0, 3)) := by show _ = _; simp [lenN, h1]
    go_enter Tryz.func186, Tryz.ntmps186
    go_wp2
    go_ret2
    exact ⟨by rw [HE.out]; rfl, 0, rfl⟩
  · have h2 : a < s.size := by omega
    have HB := hide (byteN_eq s a h2)
    by_cases h3 : byteN s a = 0
    · have HE : Hid (lenN s a k limit = (0, 4)) := by show _ = _; simp [lenN, h1, h3]
      have hb : (s[a].toNat : Int) = 0 := by rw [HB.out, h3]; rfl
      go_enter Tryz.func186, Tryz.ntmps186
      go_wp2
      go_ret2
      exact ⟨by rw [HE.out]; rfl, 0, rfl⟩
    · have hb : ((s[a].toNat : Int) == 0) = false := by rw [HB.out]; simp; omega
      go_enter Tryz.func186, Tryz.ntmps186
      go_wp2
      go_loopw [10, 22] (fun v i wr => ∃ q : Nat, q ≤ k ∧ i = .int .i64 (q : Int) ∧ v = .int .u64 ((numN s a q : Nat) : Int) ∧ ∃ n, wr = w.drewN n) (fun _ i _ => k - (intOf i).toNat)
      case atStart => exact ⟨0, Nat.zero_le _, rfl, rfl, 0, rfl⟩
      case round =>
        obtain ⟨q, hq, rfl, rfl, n0, rfl⟩ := hrel
        by_cases hlt : q < k
        · have h4 : a + q < s.size := by omega
          have HB2 := hide (byteN_eq s (a + q) h4)
          have hst := numN_step s a q (by omega)
          rw [← HB2.out] at hst
          have k1 : IntKind.u64.wrap (s[a + q].toNat : Int) = (s[a + q].toNat : Int) := by
            have := s[a + q].toNat_lt
            rw [IntKind.wrap_u64]; omega
          rw [← k1] at hst
          have HST := hide hst
          clear hst k1
          have b0 : (0 : Int) ≤ (q : Int) := by omega
          have b1 : (q : Int) < (k : Int) := by omega
          have b2 : (a : Int) + (q : Int) < (s.size : Int) := by omega
          have e3 : ((a : Int) + (q : Int)).toNat = a + q := by omega
          generalize numN s a q = Y at *
          go_wp2
          go_roundw
          case rel => exact ⟨q + 1, by omega, by go_num, congrArg (Value.int .u64) HST.out, n0, rfl⟩
          case measure => simp [intOf]; omega
        · have hqk : q = k := by omega
          by_cases h5 : numN s a k ≤ 55
          · have HE : Hid (lenN s a k limit = (0, 4)) := by show _ = _; simp [lenN, h1, h3, h5]
            rw [hqk]
            have h6 : decide (((numN s a k : Nat) : Int) ≤ 55) = true := by simp; omega
            go_wp2
            go_ret2
            exact ⟨by rw [HE.out]; rfl, _, rfl⟩
          · have HE : Hid (lenN s a k limit = (((min (numN s a k) 6001 : Nat) : Int), 0)) := by show _ = _; simp [lenN, h1, h3, h5]
            rw [hqk]
            have h6 : decide (((numN s a k : Nat) : Int) ≤ 55) = false := by simp; omega
            go_wp2
            all_goals go_ret2
            · exact ⟨by rw [HE.out, Nat.min_eq_right (by omega)]; rfl, _, rfl⟩
            · exact ⟨by rw [HE.out, Nat.min_eq_left (by omega)]; rfl, _, rfl⟩
end Go.Proofs.YthdjmldddjljfaaGreatDoor.V
