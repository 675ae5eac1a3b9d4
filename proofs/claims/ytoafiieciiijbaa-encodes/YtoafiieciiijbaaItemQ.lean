/-
  OUR OWN: items: the reference's cut at a list.
-/
import Derived.Test.YtoafiieciiijbaaItemP
namespace Go.Proofs.Ytoafiieciiijbaa
open Go.RowKit
attribute [local go_sem ↓] Go.wp_at_zero Go.wp_at_succ

/-- cut, inside of d lists -/
def CutOk (s : ByteArray) (r d : Nat) : Prop := ∀ (a limit : Nat) (w : World), a ≤ limit → limit ≤ s.size →
  Calls Try.prog 49 #[.string (s.extract a limit), .int .i64 (d : Int)] w fun e w' => CutPost r (readN s r a limit) a w e w'

set_option maxHeartbeats 2000000 in
set_option maxRecDepth 20000 in
/-- a list: the head is none, or it is inside of too many -/
theorem cut_listE (t : ByteArray) (d z : Nat) (w : World) (h0 : 0 < t.size) (ht : t.size ≤ 6000) (hb : byteN t 0 = 192 + z) (hz : z ≤ 63) (er : Int) (her : er ≠ 0) (hsp : spanN t 0 z t.size = ((0, 0), er)) :
    Calls Try.prog 49 #[.string t, .int .i64 (d : Int)] w fun e w' => e = .returned (.tuple #[it0, .int .i64 0, .int .i64 er]) ∧ Below w.heap.size w w' := by
  have HB := hide (byteN_eq t 0 h0)
  have h3 : (t[0].toNat : Int) = 192 + (z : Int) := by rw [HB.out]; omega
  have HS : Hid (∀ W, Calls Try.prog 62 #[.string t, .int .i64 (192 + (z : Int) - 192)] W fun e w' => e = .returned (.tuple #[.int .i64 0, .int .i64 0, .int .i64 er]) ∧ w' = W) := by
    intro W
    have h := span_any t z W ht hz
    rw [hsp] at h
    rwa [show (z : Int) = 192 + (z : Int) - 192 from by omega] at h
  have b2 : (0 : Int) < (t.size : Int) := by omega
  have b3 : ((t.size : Int) == 0) = false := beq_false_of_ne (by omega)
  have b4 : (z : Int) ≤ 63 := by omega
  have b5 : (0 : Int) ≤ (z : Int) := by omega
  have e1 : (er == 0) = false := beq_false_of_ne her
  have e2 : (er != 0) = true := by simpa using her
  clear hb hsp hz her
  go_enter Try.func49, Try.ntmps49
  go_wp2_with fail
  refine (HS.out _).mono ?_
  rintro e w1 ⟨rfl, rfl⟩
  go_wp2
  refine bodyPost_ret (v := .tuple #[it0, .int .i64 0, .int .i64 er]) (by simp [results, Try.results49, go_sem, it0]) rfl ⟨rfl, ?_⟩
  exact below_alloc _ _
set_option maxHeartbeats 2000000 in
set_option maxRecDepth 20000 in
theorem cut_listD (t : ByteArray) (d z x y : Nat) (w : World) (h0 : 0 < t.size) (ht : t.size ≤ 6000) (hb : byteN t 0 = 192 + z) (hz : z ≤ 63) (hd8 : 8 ≤ d) (hsp : spanN t 0 z t.size = ((x, y), 0)) :
    Calls Try.prog 49 #[.string t, .int .i64 (d : Int)] w fun e w' => e = .returned (.tuple #[it0, .int .i64 0, .int .i64 6]) ∧ Below w.heap.size w w' := by
  have HB := hide (byteN_eq t 0 h0)
  have h3 : (t[0].toNat : Int) = 192 + (z : Int) := by rw [HB.out]; omega
  have HS : Hid (∀ W, Calls Try.prog 62 #[.string t, .int .i64 (192 + (z : Int) - 192)] W fun e w' => e = .returned (.tuple #[.int .i64 (x : Int), .int .i64 (y : Int), .int .i64 0]) ∧ w' = W) := by
    intro W
    have h := span_any t z W ht hz
    rw [hsp] at h
    rwa [show (z : Int) = 192 + (z : Int) - 192 from by omega] at h
  have b2 : (0 : Int) < (t.size : Int) := by omega
  have b3 : ((t.size : Int) == 0) = false := beq_false_of_ne (by omega)
  have b4 : (z : Int) ≤ 63 := by omega
  have b5 : (0 : Int) ≤ (z : Int) := by omega
  have b6 : (8 : Int) ≤ (d : Int) := by omega
  clear hb hsp hz
  go_enter Try.func49, Try.ntmps49
  go_wp2_with fail
  refine (HS.out _).mono ?_
  rintro e w1 ⟨rfl, rfl⟩
  go_wp2
  refine bodyPost_ret (v := .tuple #[it0, .int .i64 0, .int .i64 6]) (by simp [results, Try.results49, go_sem, it0]) rfl ⟨rfl, ?_⟩
  exact below_alloc _ _
end Go.Proofs.Ytoafiieciiijbaa
