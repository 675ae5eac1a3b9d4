/-
  OUR OWN: walks of canopylaw.num, paths.isPath, canopylaw.sameNumbers.
-/
import Derived.Test.YtjbiidncdpgkcaaProg
import Derived.Test.YtjbiidncdpgkcaaPlainA
import Derived.WalkKit
import Derived.WalkSpells
import Derived.WalkLawsBesides
import Derived.BigQuiet
import Derived.Deep.QuietTactic
namespace Go.Proofs.Ytjbiidncdpgkcaa
open Go.RowKit

set_option maxHeartbeats 400000 in
theorem num_any (n : Int) (w : World) :
    Calls Try.prog 10 #[.int .i64 n] w fun e w' => e = .returned (.int .i64 n) ∧ w' = w := by
  go_enter Try.func10, Try.ntmps10
  go_wp2
  go_ret
  exact ⟨rfl, rfl⟩

/-- a slice of ints: what its cells read -/
def Ints (w : World) (ao : Option Addr) (zs : List Int) : Prop :=
  zs = [] ∨ ∃ b off, ao = some ⟨b, off, none⟩ ∧ ∀ j, j < zs.length → w.cell? ⟨b, off + j, none⟩ = some (.int .i64 (zs.getD j 0))
theorem Ints.row {w : World} {ao : Option Addr} {zs : List Int} (h : Ints w ao zs) (h0 : 0 < zs.length) : ∃ b off, ao = some ⟨b, off, none⟩ ∧ b < w.heap.size ∧ ∀ j, j < zs.length → w.cell? ⟨b, off + j, none⟩ = some (.int .i64 (zs.getD j 0)) := by
  rcases h with rfl | ⟨b, off, h1, h2⟩
  · simp at h0
  · exact ⟨b, off, h1, World.block_lt_of_cell? w _ (h2 0 h0), h2⟩
theorem Ints.get {w : World} {ao : Option Addr} {zs : List Int} (h : Ints w ao zs) (j : Nat) (hj : j < zs.length) : ∃ b off, ao = some ⟨b, off, none⟩ ∧ w.cell? ⟨b, off + j, none⟩ = some (.int .i64 (zs.getD j 0)) := by
  obtain ⟨b, off, h1, _, h2⟩ := h.row (by omega)
  exact ⟨b, off, h1, h2 j hj⟩
theorem Ints.keep {w w' : World} {ao : Option Addr} {zs : List Int} (h : Ints w ao zs) (hb : Below w.heap.size w w') : Ints w' ao zs := by
  by_cases h0 : 0 < zs.length
  · obtain ⟨b, off, h1, hlt, h2⟩ := h.row h0
    exact .inr ⟨b, off, h1, fun j hj => by rw [hb.cell (p := ⟨b, off + j, none⟩) hlt]; exact h2 j hj⟩
  · exact .inl (List.length_eq_zero_iff.1 (by omega))
theorem Ints.drewN {w : World} {ao : Option Addr} {zs : List Int} (h : Ints w ao zs) (n : Nat) : Ints (w.drewN n) ao zs := h
theorem Ints.own {w : World} {base e g n c : Nat} {zs : List Int} (h : w.ownsRow base e 1 (.slice (some ⟨g, 0, none⟩) n c) n (zs.map (Value.int .i64))) : Ints w (some ⟨g, 0, none⟩) zs := by
  refine .inr ⟨g, 0, rfl, fun j hj => ?_⟩
  have := h.cells (g := g) rfl j (.int .i64 (zs.getD j 0)) (by simp [List.getD_eq_getElem?_getD, hj])
  rw [← this, addr_add]
theorem Ints.nil {w : World} {ao : Option Addr} : Ints w ao [] := .inl rfl

theorem isPath_long (ao : Option Addr) (len cap : Nat) (w : World) (h : 128 < len) (hm : len ≤ 9223372036854775807) :
    Calls Try.prog 50 #[.slice ao len cap] w fun e w' => e = .returned (.bool false) ∧ w' = w := by
  go_enter Try.func50, Try.ntmps50
  go_wp2
  go_ret
  exact ⟨rfl, rfl⟩


set_option maxHeartbeats 400000 in
theorem isPath_short (ao : Option Addr) (cap : Nat) (zs : List Int) (w : World) (h : zs.length ≤ 128) (hc : Ints w ao zs) :
    Calls Try.prog 50 #[.slice ao zs.length cap] w fun e w' => e = .returned (.bool (isP zs)) ∧ w' = w := by
  go_enter Try.func50, Try.ntmps50
  go_wp2
  go_loop [10] (fun i => ∃ k : Nat, k ≤ zs.length ∧ i = .int .i64 k ∧ (zs.take k).all nib = true) (fun i => zs.length - (intOf i).toNat)
  case atStart => exact ⟨0, Nat.zero_le _, rfl, by simp⟩
  case round =>
    obtain ⟨k, hk, rfl, hall⟩ := hrel
    by_cases hlt : k < zs.length
    · obtain ⟨b, off, rfl, hcell⟩ := hc.get k hlt
      have HS := hide (all_take_succ nib zs k hlt)
      have HB : Hid (nib (zs.getD k 0) = false → isP zs = false) := fun hb => isP_bad hlt hb
      have HN : Hid (nib zs[k] = nib (zs.getD k 0)) := by simp [Hid, hlt]
      have HA := hide hall
      clear hall
      by_cases hneg : zs[k] < 0
      · go_wp2
        go_ret
        exact ⟨ret_bool (HB.out (by rw [← HN.out]; simp [nib]; omega)).symm, rfl⟩
      · by_cases hbig : 15 < zs[k]
        · go_wp2
          go_ret
          exact ⟨ret_bool (HB.out (by rw [← HN.out]; simp [nib]; omega)).symm, rfl⟩
        · go_wp2
          go_round
          case rel => exact ⟨k + 1, by omega, by go_num, by rw [HS.out, HA.out, ← HN.out]; simp [nib]; omega⟩
          case measure => simp [intOf]; omega
    · have hk2 : k = zs.length := by omega
      have HF : Hid (isP zs = true) := isP_good h (by rw [← hk2]; exact hall)
      clear hall hk2
      go_wp2
      go_ret
      exact ⟨ret_bool HF.out.symm, rfl⟩

set_option maxHeartbeats 400000 in
theorem sameNumbers_len (ao bo : Option Addr) (m n c d : Nat) (w : World) (h : ((m : Int) != (n : Int)) = true) :
    Calls Try.prog 18 #[.slice ao m c, .slice bo n d] w fun e w' => e = .returned (.bool false) ∧ w' = w := by
  go_enter Try.func18, Try.ntmps18
  go_wp2
  go_ret
  exact ⟨rfl, rfl⟩

set_option maxHeartbeats 400000 in
/-- the same numbers in both: true (all that the laws want) -/
theorem sameNumbers_eq (ao bo : Option Addr) (c d : Nat) (zs : List Int) (w : World) (hm : zs.length ≤ 9223372036854775806) (ha : Ints w ao zs) (hb : Ints w bo zs) :
    Calls Try.prog 18 #[.slice ao zs.length c, .slice bo zs.length d] w fun e w' => e = .returned (.bool true) ∧ ∃ n, w' = w.drewN n := by
  go_enter Try.func18, Try.ntmps18
  go_wp2
  go_loopw [5] (fun i wr => ∃ k : Nat, k ≤ zs.length ∧ i = .int .i64 k ∧ ∃ n, wr = w.drewN n) (fun i _ => zs.length - (intOf i).toNat)
  case atStart => exact ⟨0, Nat.zero_le _, rfl, 0, rfl⟩
  case round =>
    obtain ⟨k, hk, rfl, n, rfl⟩ := hrel
    by_cases hlt : k < zs.length
    · obtain ⟨b, off, rfl, hcell⟩ := ha.get k hlt
      obtain ⟨b2, off2, rfl, hcell2⟩ := hb.get k hlt
      have h0 : (0 : Int) ≤ (k : Int) := by omega
      have h1 : (k : Int) < (zs.length : Int) := by omega
      go_wp2
      go_quiet (fail)
      go_wp2
      go_roundw
      case rel => exact ⟨k + 1, by omega, by go_num, n + nq, rfl⟩
      case measure => simp [intOf]; omega
    · go_wp2
      go_ret
      exact ⟨rfl, n, rfl⟩
end Go.Proofs.Ytjbiidncdpgkcaa
