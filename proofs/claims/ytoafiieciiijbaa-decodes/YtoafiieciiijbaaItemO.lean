/-
  OUR OWN: items: the reference's cut at bytes.
-/
import Derived.Test.YtoafiieciiijbaaItemN
namespace Go.Proofs.Ytoafiieciiijbaa
open Go.RowKit
attribute [local go_sem ↓] Go.wp_at_zero Go.wp_at_succ

set_option maxHeartbeats 2000000 in
set_option maxRecDepth 20000 in
/-- one byte that is its own code, with a head -/
theorem cut_textF (t : ByteArray) (d : Nat) (w : World) (h0 : 0 < t.size) (ht : t.size ≤ 6000) (hb : byteN t 0 = 128 + 1) (h2 : 2 ≤ t.size) (hf : byteN t 1 < 128) (hsp : spanN t 0 1 t.size = ((1, 2), 0)) :
    Calls Try.prog 49 #[.string t, .int .i64 (d : Int)] w fun e w' => e = .returned (.tuple #[it0, .int .i64 0, .int .i64 4]) ∧ Below w.heap.size w w' := by
  have HB := hide (byteN_eq t 0 h0)
  have h3 : (t[0].toNat : Int) = 129 := by rw [HB.out]; omega
  have HS : Hid (∀ W, Calls Try.prog 62 #[.string t, .int .i64 (129 - 128)] W fun e w' => e = .returned (.tuple #[.int .i64 (1 : Nat), .int .i64 (2 : Nat), .int .i64 0]) ∧ w' = W) := by
    intro W
    have h := span_any t 1 W ht (by omega)
    rw [hsp] at h
    rwa [show ((1 : Nat) : Int) = 129 - 128 from by omega] at h
  have b2 : (0 : Int) < (t.size : Int) := by omega
  have b3 : ((t.size : Int) == 0) = false := beq_false_of_ne (by omega)
  have h11 : 1 < t.size := by omega
  have HB1 := hide (byteN_eq t 1 h11)
  have b6 : (1 : Int) < (t.size : Int) := by omega
  have b7 : (t[1].toNat : Int) < 128 := by rw [HB1.out]; omega
  clear hb hsp
  go_enter Try.func49, Try.ntmps49
  go_wp2_with fail
  refine (HS.out _).mono ?_
  rintro e w1 ⟨rfl, rfl⟩
  go_wp2
  refine bodyPost_ret (v := .tuple #[it0, .int .i64 0, .int .i64 4]) (by simp [results, Try.results49, go_sem, it0]) rfl ⟨rfl, ?_⟩
  exact below_alloc _ _

set_option maxHeartbeats 2000000 in
set_option maxRecDepth 20000 in
/-- one byte that is not its own code, with a head -/
theorem cut_textG (t : ByteArray) (d x y : Nat) (w : World) (h0 : 0 < t.size) (ht : t.size ≤ 6000) (hb : byteN t 0 = 128 + 1) (h2 : 2 ≤ t.size) (hf : 128 ≤ byteN t 1) (hxy : x ≤ y) (hyt : y ≤ t.size) (hsp : spanN t 0 1 t.size = ((x, y), 0)) :
    Calls Try.prog 49 #[.string t, .int .i64 (d : Int)] w fun e w' => e = .returned (.tuple #[.agg #[.bool false, .string (t.extract x y), .slice none 0 0], .int .i64 (y : Int), .int .i64 0]) ∧ Below w.heap.size w w' := by
  have HB := hide (byteN_eq t 0 h0)
  have h3 : (t[0].toNat : Int) = 129 := by rw [HB.out]; omega
  have HS : Hid (∀ W, Calls Try.prog 62 #[.string t, .int .i64 (129 - 128)] W fun e w' => e = .returned (.tuple #[.int .i64 (x : Nat), .int .i64 (y : Nat), .int .i64 0]) ∧ w' = W) := by
    intro W
    have h := span_any t 1 W ht (by omega)
    rw [hsp] at h
    rwa [show ((1 : Nat) : Int) = 129 - 128 from by omega] at h
  have b2 : (0 : Int) < (t.size : Int) := by omega
  have b3 : ((t.size : Int) == 0) = false := beq_false_of_ne (by omega)
  have h11 : 1 < t.size := by omega
  have HB1 := hide (byteN_eq t 1 h11)
  have b6 : (1 : Int) < (t.size : Int) := by omega
  have c1 : (0 : Int) ≤ (x : Int) := by omega
  have c2 : (x : Int) ≤ (y : Int) := by omega
  have c3 : (y : Int) ≤ (t.size : Int) := by omega
  have b7 : decide ((t[1].toNat : Int) < 128) = false := by rw [HB1.out]; simp; omega
  clear hb hsp
  go_enter Try.func49, Try.ntmps49
  go_wp2_with fail
  refine (HS.out _).mono ?_
  rintro e w1 ⟨rfl, rfl⟩
  go_wp2
  refine bodyPost_ret (v := .tuple #[.agg #[.bool false, .string (t.extract x y), .slice none 0 0], .int .i64 (y : Int), .int .i64 0]) (by simp [results, Try.results49, go_sem]) rfl ⟨rfl, ?_⟩
  exact below_alloc _ _

set_option maxHeartbeats 2000000 in
set_option maxRecDepth 20000 in
/-- bytes with a head, but one -/
theorem cut_textK (t : ByteArray) (d z x y : Nat) (w : World) (h0 : 0 < t.size) (ht : t.size ≤ 6000) (hb : byteN t 0 = 128 + z) (hz : z ≤ 63) (hz1 : z ≠ 1) (hxy : x ≤ y) (hyt : y ≤ t.size) (hsp : spanN t 0 z t.size = ((x, y), 0)) :
    Calls Try.prog 49 #[.string t, .int .i64 (d : Int)] w fun e w' => e = .returned (.tuple #[.agg #[.bool false, .string (t.extract x y), .slice none 0 0], .int .i64 (y : Int), .int .i64 0]) ∧ Below w.heap.size w w' := by
  have HB := hide (byteN_eq t 0 h0)
  have h3 : (t[0].toNat : Int) = 128 + (z : Int) := by rw [HB.out]; omega
  have HS : Hid (∀ W, Calls Try.prog 62 #[.string t, .int .i64 (128 + (z : Int) - 128)] W fun e w' => e = .returned (.tuple #[.int .i64 (x : Nat), .int .i64 (y : Nat), .int .i64 0]) ∧ w' = W) := by
    intro W
    have h := span_any t z W ht (by omega)
    rw [hsp] at h
    rwa [show ((z : Nat) : Int) = 128 + (z : Int) - 128 from by omega] at h
  have b2 : (0 : Int) < (t.size : Int) := by omega
  have b3 : ((t.size : Int) == 0) = false := beq_false_of_ne (by omega)
  have c1 : (0 : Int) ≤ (x : Int) := by omega
  have c2 : (x : Int) ≤ (y : Int) := by omega
  have c3 : (y : Int) ≤ (t.size : Int) := by omega
  have b4 : (z : Int) ≤ 63 := by omega
  have b5 : (0 : Int) ≤ (z : Int) := by omega
  have b7 : (128 + (z : Int) == 129) = false := beq_false_of_ne (by omega)
  clear hb hsp
  go_enter Try.func49, Try.ntmps49
  go_wp2_with fail
  refine (HS.out _).mono ?_
  rintro e w1 ⟨rfl, rfl⟩
  go_wp2
  refine bodyPost_ret (v := .tuple #[.agg #[.bool false, .string (t.extract x y), .slice none 0 0], .int .i64 (y : Int), .int .i64 0]) (by simp [results, Try.results49, go_sem]) rfl ⟨rfl, ?_⟩
  exact below_alloc _ _
end Go.Proofs.Ytoafiieciiijbaa
