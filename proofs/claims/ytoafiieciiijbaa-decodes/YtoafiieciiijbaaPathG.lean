/-
  OUR OWN: walks of paths.Unpack.
-/
import Derived.Test.YtoafiieciiijbaaPathF
namespace Go.Proofs.Ytoafiieciiijbaa
open Go.RowKit
attribute [local go_sem ↓] Go.wp_at_zero Go.wp_at_succ

theorem and15_fin : ∀ b : Fin 256, bits BinOp.and IntKind.u8 (b.val : Int) 15 = (b.val : Int) % 16 := by decide +kernel
theorem and15 (b : UInt8) : bits BinOp.and IntKind.u8 (b.toNat : Int) 15 = (b.toNat : Int) % 16 := and15_fin ⟨b.toNat, b.toNat_lt⟩

set_option maxHeartbeats 400000 in
theorem pUnpack_nil (w : World) :
    Calls Try.prog 37 #[.string ⟨#[]⟩] w fun e w' => e = .returned (.tuple #[.slice none 0 0, .bool false, .int .i64 7]) ∧ w' = w := by
  go_enter Try.func37, Try.ntmps37
  go_wp2
  go_ret3
  exact ⟨rfl, rfl⟩
set_option maxHeartbeats 400000 in
theorem pUnpack_long (s : ByteArray) (w : World) (h : 65 < s.size) (hm : s.size ≤ 9223372036854775807) :
    Calls Try.prog 37 #[.string s] w fun e w' => e = .returned (.tuple #[.slice none 0 0, .bool false, .int .i64 7]) ∧ w' = w := by
  go_enter Try.func37, Try.ntmps37
  go_wp2
  all_goals
    go_ret3
    exact ⟨rfl, rfl⟩
theorem ne_empty {s : ByteArray} (h : 0 < s.size) : s.toList.isEmpty = false := by
  rw [Lib.toList_data]
  cases hl : s.data.toList with
  | nil => have := Lib.size_eq s; rw [hl, List.length_nil] at this; omega
  | cons a r => rfl

set_option maxRecDepth 100000 in
set_option maxHeartbeats 400000 in
theorem pUnpack_e1 (s : ByteArray) (w : World) (h0 : 0 < s.size) (h : s.size ≤ 65) (m x : Int) (hm : (s[0].toNat : Int) / 16 = m) (hx : (s[0].toNat : Int) % 16 = x) (hm3 : 3 < m) :
    Calls Try.prog 37 #[.string s] w fun e w' => e = .returned (.tuple #[.slice none 0 0, .bool false, .int .i64 7]) ∧ Below w.heap.size w w' := by
  have hne := ne_empty h0
  have hb2 : (s[0].toNat : Int) < 256 := by have := s[0].toNat_lt; omega
  have hbt := and15 s[0]
  rw [hx] at hbt
  have m1 : 0 ≤ m := by omega
  have m2 : m ≤ 15 := by omega
  have x1 : 0 ≤ x := by omega
  have x2 : x ≤ 15 := by omega
  clear hx
  go_enter Try.func37, Try.ntmps37
  go_wp2
  go_quiet (fail)
  go_wp2
  all_goals
    go_ret3
    exact ⟨rfl, below_drewN (Below.refl _ _) _⟩

set_option maxRecDepth 100000 in
set_option maxHeartbeats 400000 in
theorem pUnpack_e2_0 (s : ByteArray) (w : World) (h0 : 0 < s.size) (h : s.size ≤ 65) (x : Int) (hm : (s[0].toNat : Int) / 16 = 0) (hx : (s[0].toNat : Int) % 16 = x) (hx0 : x ≠ 0) :
    Calls Try.prog 37 #[.string s] w fun e w' => e = .returned (.tuple #[.slice none 0 0, .bool false, .int .i64 7]) ∧ Below w.heap.size w w' := by
  have hne := ne_empty h0
  have hb2 : (s[0].toNat : Int) < 256 := by have := s[0].toNat_lt; omega
  have hbt := and15 s[0]
  rw [hx] at hbt
  have x1 : 0 ≤ x := by omega
  have x2 : x ≤ 15 := by omega
  clear hx
  have p1 : bits BinOp.and IntKind.i64 0 1 = 0 := by decide +kernel
  have hxb : (x != 0) = true := by simp [hx0]
  go_enter Try.func37, Try.ntmps37
  go_wp2
  go_quiet (fail)
  go_wp2
  all_goals
    go_ret3
    exact ⟨rfl, below_drewN (Below.refl _ _) _⟩

set_option maxRecDepth 100000 in
set_option maxHeartbeats 400000 in
theorem pUnpack_e2_2 (s : ByteArray) (w : World) (h0 : 0 < s.size) (h : s.size ≤ 65) (x : Int) (hm : (s[0].toNat : Int) / 16 = 2) (hx : (s[0].toNat : Int) % 16 = x) (hx0 : x ≠ 0) :
    Calls Try.prog 37 #[.string s] w fun e w' => e = .returned (.tuple #[.slice none 0 0, .bool false, .int .i64 7]) ∧ Below w.heap.size w w' := by
  have hne := ne_empty h0
  have hb2 : (s[0].toNat : Int) < 256 := by have := s[0].toNat_lt; omega
  have hbt := and15 s[0]
  rw [hx] at hbt
  have x1 : 0 ≤ x := by omega
  have x2 : x ≤ 15 := by omega
  clear hx
  have p1 : bits BinOp.and IntKind.i64 2 1 = 0 := by decide +kernel
  have hxb : (x != 0) = true := by simp [hx0]
  go_enter Try.func37, Try.ntmps37
  go_wp2
  go_quiet (fail)
  go_wp2
  all_goals
    go_ret3
    exact ⟨rfl, below_drewN (Below.refl _ _) _⟩

set_option maxRecDepth 100000 in
set_option maxHeartbeats 400000 in
theorem pUnpack_e3_1 (s : ByteArray) (w : World) (h0 : 0 < s.size) (h : s.size ≤ 65) (x : Int) (hm : (s[0].toNat : Int) / 16 = 1) (hx : (s[0].toNat : Int) % 16 = x) (hl : 64 < s.size) :
    Calls Try.prog 37 #[.string s] w fun e w' => e = .returned (.tuple #[.slice none 0 0, .bool false, .int .i64 7]) ∧ Below w.heap.size w w' := by
  have hne := ne_empty h0
  have hb2 : (s[0].toNat : Int) < 256 := by have := s[0].toNat_lt; omega
  have hbt := and15 s[0]
  rw [hx] at hbt
  have x1 : 0 ≤ x := by omega
  have x2 : x ≤ 15 := by omega
  clear hx
  have p1 : bits BinOp.and IntKind.i64 1 1 = 1 := by decide +kernel
  go_enter Try.func37, Try.ntmps37
  go_wp2
  go_quiet (fail)
  go_wp2
  all_goals
    go_ret3
    exact ⟨rfl, below_drewN (Below.refl _ _) _⟩

set_option maxRecDepth 100000 in
set_option maxHeartbeats 400000 in
theorem pUnpack_e3_3 (s : ByteArray) (w : World) (h0 : 0 < s.size) (h : s.size ≤ 65) (x : Int) (hm : (s[0].toNat : Int) / 16 = 3) (hx : (s[0].toNat : Int) % 16 = x) (hl : 64 < s.size) :
    Calls Try.prog 37 #[.string s] w fun e w' => e = .returned (.tuple #[.slice none 0 0, .bool false, .int .i64 7]) ∧ Below w.heap.size w w' := by
  have hne := ne_empty h0
  have hb2 : (s[0].toNat : Int) < 256 := by have := s[0].toNat_lt; omega
  have hbt := and15 s[0]
  rw [hx] at hbt
  have x1 : 0 ≤ x := by omega
  have x2 : x ≤ 15 := by omega
  clear hx
  have p1 : bits BinOp.and IntKind.i64 3 1 = 1 := by decide +kernel
  go_enter Try.func37, Try.ntmps37
  go_wp2
  go_quiet (fail)
  go_wp2
  all_goals
    go_ret3
    exact ⟨rfl, below_drewN (Below.refl _ _) _⟩

end Go.Proofs.Ytoafiieciiijbaa
