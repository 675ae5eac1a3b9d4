/-
  OUR OWN: the walk of (*state).chi.
-/
import Derived.Test.YtbdkgepidhijlaaDoorKecC
namespace Go.Proofs.YtbdkgepidhijlaaDoor
open Go.RowKit

theorem not_nat (y : Nat) (hy : W64 y) : 18446744073709551615 ^^^ y = 18446744073709551615 - y := by
  have h := congrArg BitVec.toNat (BitVec.allOnes_xor (x := BitVec.ofNat 64 y))
  rw [BitVec.toNat_xor, BitVec.toNat_allOnes, BitVec.toNat_not, BitVec.toNat_ofNat, Nat.mod_eq_of_lt (by have := hy.lt; omega)] at h
  exact h
theorem chi_eq (x y z : Nat) (hx : W64 x) (hy : W64 y) (hz : W64 z) : bits BinOp.xor IntKind.u64 (x : Int) (bits BinOp.and IntKind.u64 (bits BinOp.xor IntKind.u64 (if IntKind.u64.signed = true then -1 else IntKind.u64.max) (y : Int)) (z : Int)) = ((x ^^^ ((18446744073709551615 - y) &&& z) : Nat) : Int) := by
  have e0 : (if IntKind.u64.signed = true then -1 else IntKind.u64.max : Int) = ((18446744073709551615 : Nat) : Int) := by decide
  have hy' := hy.lt
  rw [e0, u64_xor_nat _ _ (by omega) hy.lt, not_nat y hy, u64_and_nat _ _ (by omega) hz.lt, u64_xor_nat _ _ hx.lt]
  exact (W64.and (a := 18446744073709551615 - y) (b := z) (by unfold W64; omega)).lt

set_option maxRecDepth 100000 in
set_option maxHeartbeats 1000000 in
theorem chi_any (b : Nat) (f g : Nat → Nat) (w : World) (hA : At w b 31 25 f) (hg : ∀ j, W64 (g j)) :
    Calls Tryd.prog 16 #[.pointer (some ⟨b, 0, none⟩), .agg (arr 25 g)] w fun e w' => e = .returned (.tuple #[]) ∧ At w' b 31 25 (chiF g) ∧ w.grownBy w' (some b) := by
  have hb := hA.lt
  have HA := hide hA
  clear hA
  obtain ⟨G, hG⟩ : ∃ G, Hid (arr 25 g = G) := ⟨_, rfl⟩
  rw [hG.out]
  go_enter Tryd.func16, Tryd.ntmps16
  go_wp2
  go_loopw [7] (fun i wr => ∃ k : Nat, k ≤ 25 ∧ i = .int .i64 (k : Int) ∧ At wr b 31 25 (upTo k (chiF g) f) ∧ At wr w.heap.size 31 25 g ∧ w.grownBy wr (some b)) (fun i _ => 25 - (intOf i).toNat)
  case atStart => exact ⟨0, Nat.zero_le _, rfl, (HA.out.alloc _).congr (fun j _ => upTo_zero _ _ j), by unfold At; rw [hG.out]; exact heap_alloc_new w _, World.grownBy_alloc w _ _⟩
  case round =>
    obtain ⟨k, hk, rfl, hA, hC, hgr⟩ := hrel
    by_cases hlt : k < 25
    · have hx := hC.cell k hlt
      have hy := hC.cell (k - k % 5 + (k % 5 + 1) % 5) (by omega)
      have hz := hC.cell (k - k % 5 + (k % 5 + 2) % 5) (by omega)
      have hfz := hA.free k
      obtain ⟨u0, hu0⟩ : ∃ u, wr.cell? ⟨b, k, none⟩ = some u := ⟨_, hA.cell k hlt⟩
      have HS : Hid (∀ nq, At ((wr.drewN nq).setCell ⟨b, k, none⟩ (.int .u64 ((chiF g k : Nat) : Int))) b 31 25 (upTo (k + 1) (chiF g) f) ∧ At ((wr.drewN nq).setCell ⟨b, k, none⟩ (.int .u64 ((chiF g k : Nat) : Int))) w.heap.size 31 25 g ∧ w.grownBy ((wr.drewN nq).setCell ⟨b, k, none⟩ (.int .u64 ((chiF g k : Nat) : Int))) (some b)) :=
        fun nq => ⟨(At.set (w := wr.drewN nq) hA k _).congr (fun j _ => upTo_succ k _ _ j), At.other (w := wr.drewN nq) hC (by omega) _ _, grown_set (grown_drewN hgr nq) _ _ _ (.inr rfl)⟩
      have e1 : chiF g k = g k ^^^ ((18446744073709551615 - g (k - k % 5 + (k % 5 + 1) % 5)) &&& g (k - k % 5 + (k % 5 + 2) % 5)) := rfl
      rw [e1] at HS
      clear e1 hA hC hgr
      have wx := hg k
      have wy := hg (k - k % 5 + (k % 5 + 1) % 5)
      have wz := hg (k - k % 5 + (k % 5 + 2) % 5)
      obtain ⟨q1, hq1⟩ : ∃ q, Hid (k - k % 5 + (k % 5 + 1) % 5 = q) := ⟨_, rfl⟩
      obtain ⟨q2, hq2⟩ : ∃ q, Hid (k - k % 5 + (k % 5 + 2) % 5 = q) := ⟨_, rfl⟩
      rw [hq1.out] at hy HS wy
      rw [hq2.out] at hz HS wz
      generalize g k = x at hx HS wx
      generalize g q1 = y at hy HS wy
      generalize g q2 = z at hz HS wz
      have b0 : (0 : Int) ≤ (k : Int) := by omega
      have b1 : (k : Int) < 25 := by omega
      obtain ⟨p, hp⟩ : ∃ p, Hid (k % 5 = p) := ⟨_, rfl⟩
      obtain ⟨r, hr⟩ : ∃ r, Hid (k - k % 5 = r) := ⟨_, rfl⟩
      obtain ⟨p1, hp1⟩ : ∃ q, Hid ((p + 1) % 5 = q) := ⟨_, rfl⟩
      obtain ⟨p2, hp2⟩ : ∃ q, Hid ((p + 2) % 5 = q) := ⟨_, rfl⟩
      have hp5 : p < 5 := by have := hp.out; omega
      have hkp := hide (show (k : Int) % 5 = (p : Int) from by have := hp.out; omega)
      have hkr := hide (show (k : Int) - (p : Int) = (r : Int) from by have := hp.out; have := hr.out; omega)
      have r1 : IntKind.i64.wrap ((p : Int) + 1) = (p : Int) + 1 := by rw [IntKind.wrap_i64]; omega
      have r2 : IntKind.i64.wrap ((p : Int) + 2) = (p : Int) + 2 := by rw [IntKind.wrap_i64]; omega
      have r3 : ((p : Int) + 1).tmod 5 = (p1 : Int) := by rw [Int.tmod_eq_emod_of_nonneg (by omega)]; have := hp1.out; omega
      have r4 : ((p : Int) + 2).tmod 5 = (p2 : Int) := by rw [Int.tmod_eq_emod_of_nonneg (by omega)]; have := hp2.out; omega
      have r5 : IntKind.i64.wrap ((r : Int) + (p1 : Int)) = (q1 : Int) := by rw [IntKind.wrap_i64]; have := hq1.out; have := hp1.out; have := hp.out; have := hr.out; omega
      have r6 : IntKind.i64.wrap ((r : Int) + (p2 : Int)) = (q2 : Int) := by rw [IntKind.wrap_i64]; have := hq2.out; have := hp2.out; have := hp.out; have := hr.out; omega
      have b2 : (0 : Int) ≤ (q1 : Int) := by omega
      have b3 : (q1 : Int) < 25 := by have := hq1.out; omega
      have b4 : (0 : Int) ≤ (q2 : Int) := by omega
      have b5 : (q2 : Int) < 25 := by have := hq2.out; omega
      go_wp2
      rw [hkp.out, hkr.out]
      go_region
      go_wp2
      rw [chi_eq x y z wx wy wz]
      go_roundw
      case rel => exact ⟨k + 1, by omega, by go_num, (HS.out 1).1, (HS.out 1).2.1, (HS.out 1).2.2⟩
      case measure => simp [intOf]; omega
    · have hk25 : k = 25 := by omega
      rw [hk25] at hA
      have HF : Hid (At wr b 31 25 (chiF g)) := hA.congr (fun j hj => upTo_full 25 _ _ j hj)
      have HG2 := hide hgr
      clear hA hC hgr hk25
      go_wp2
      go_end0
      exact ⟨rfl, HF.out, HG2.out⟩
end Go.Proofs.YtbdkgepidhijlaaDoor
