/-
  OUR OWN: of PathA: what only some programs have.
-/
import Derived.Test.YtoafiieciiijbaaPathA
namespace Go.Proofs.Ytoafiieciiijbaa
open Go.RowKit

theorem isPath_long (ao : Option Addr) (len cap : Nat) (w : World) (h : 128 < len) (hm : len ≤ 9223372036854775807) :
    Calls Try.prog 50 #[.slice ao len cap] w fun e w' => e = .returned (.bool false) ∧ w' = w := by
  go_enter Try.func50, Try.ntmps50
  go_wp2
  go_ret
  exact ⟨rfl, rfl⟩


set_option maxHeartbeats 400000 in
theorem isPath_short (ao : Option Addr) (cap : Nat) (zs : List Int) (w : World) (h : zs.length ≤ 128) (hc : Ints w ao zs) :
    Calls Try.prog 50 #[.slice ao zs.length cap] w fun e w' => e = .returned (.bool (isP zs)) ∧ w' = w := by
  go_enter Try.func50, Try.ntmps50
  go_wp2
  go_loop [10] (fun i => ∃ k : Nat, k ≤ zs.length ∧ i = .int .i64 k ∧ (zs.take k).all nib = true) (fun i => zs.length - (intOf i).toNat)
  case atStart => exact ⟨0, Nat.zero_le _, rfl, by simp⟩
  case round =>
    obtain ⟨k, hk, rfl, hall⟩ := hrel
    by_cases hlt : k < zs.length
    · obtain ⟨b, off, rfl, hcell⟩ := hc.get k hlt
      have HS := hide (all_take_succ nib zs k hlt)
      have HB : Hid (nib (zs.getD k 0) = false → isP zs = false) := fun hb => isP_bad hlt hb
      have HN : Hid (nib zs[k] = nib (zs.getD k 0)) := by simp [Hid, hlt]
      have HA := hide hall
      clear hall
      by_cases hneg : zs[k] < 0
      · go_wp2
        go_ret
        exact ⟨ret_bool (HB.out (by rw [← HN.out]; simp [nib]; omega)).symm, rfl⟩
      · by_cases hbig : 15 < zs[k]
        · go_wp2
          go_ret
          exact ⟨ret_bool (HB.out (by rw [← HN.out]; simp [nib]; omega)).symm, rfl⟩
        · go_wp2
          go_round
          case rel => exact ⟨k + 1, by omega, by go_num, by rw [HS.out, HA.out, ← HN.out]; simp [nib]; omega⟩
          case measure => simp [intOf]; omega
    · have hk2 : k = zs.length := by omega
      have HF : Hid (isP zs = true) := isP_good h (by rw [← hk2]; exact hall)
      clear hall hk2
      go_wp2
      go_ret
      exact ⟨ret_bool HF.out.symm, rfl⟩

set_option maxHeartbeats 400000 in
theorem sameNumbers_len (ao bo : Option Addr) (m n c d : Nat) (w : World) (h : ((m : Int) != (n : Int)) = true) :
    Calls Try.prog 18 #[.slice ao m c, .slice bo n d] w fun e w' => e = .returned (.bool false) ∧ w' = w := by
  go_enter Try.func18, Try.ntmps18
  go_wp2
  go_ret
  exact ⟨rfl, rfl⟩

set_option maxHeartbeats 400000 in
/-- the same numbers in both: true (all that the laws want) -/
theorem sameNumbers_eq (ao bo : Option Addr) (c d : Nat) (zs : List Int) (w : World) (hm : zs.length ≤ 9223372036854775806) (ha : Ints w ao zs) (hb : Ints w bo zs) :
    Calls Try.prog 18 #[.slice ao zs.length c, .slice bo zs.length d] w fun e w' => e = .returned (.bool true) ∧ ∃ n, w' = w.drewN n := by
  go_enter Try.func18, Try.ntmps18
  go_wp2
  go_loopw [5] (fun i wr => ∃ k : Nat, k ≤ zs.length ∧ i = .int .i64 k ∧ ∃ n, wr = w.drewN n) (fun i _ => zs.length - (intOf i).toNat)
  case atStart => exact ⟨0, Nat.zero_le _, rfl, 0, rfl⟩
  case round =>
    obtain ⟨k, hk, rfl, n, rfl⟩ := hrel
    by_cases hlt : k < zs.length
    · obtain ⟨b, off, rfl, hcell⟩ := ha.get k hlt
      obtain ⟨b2, off2, rfl, hcell2⟩ := hb.get k hlt
      have h0 : (0 : Int) ≤ (k : Int) := by omega
      have h1 : (k : Int) < (zs.length : Int) := by omega
      go_wp2
      go_quiet (fail)
      go_wp2
      go_roundw
      case rel => exact ⟨k + 1, by omega, by go_num, n + nq, rfl⟩
      case measure => simp [intOf]; omega
    · go_wp2
      go_ret
      exact ⟨rfl, n, rfl⟩
end Go.Proofs.Ytoafiieciiijbaa
