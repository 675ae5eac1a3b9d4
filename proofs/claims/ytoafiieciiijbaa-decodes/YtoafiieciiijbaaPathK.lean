/-
  OUR OWN: walks of (*Book).small, entriesRead, (*Book).looks where lists of numbers alone are in the book.
-/
import Derived.Test.YtoafiieciiijbaaPathJ
namespace Go.Proofs.Ytoafiieciiijbaa
open Go.RowKit

set_option maxRecDepth 100000 in
set_option maxHeartbeats 1600000 in
theorem small_nums (B : Nat) (L2 l3 l4 l5 l6 : Value) (N2 : Nat) (vs : List Value) (w : World)
    (hB : w.heap[B]? = some (.cells #[.slice none 0 0, L2, l3, l4, l5, l6] 39 (0, 0))) (h2 : w.ownsRow 0 48 1 L2 N2 vs) (hN2 : N2 ≤ 100)
    (hv : ∀ i, i < N2 → ∃ k, k ≤ 2000000 ∧ MkA w (vs.getD i undef) k (.int .i64 (-7 - (i : Int) / 4))) :
    Calls Try.prog 33 #[.pointer (some ⟨B, 0, none⟩)] w fun e w' => e = .returned (.bool true) ∧ w' = w := by
  have hc0 : w.cell? ⟨B, 0, none⟩ = some (.slice none 0 0) := by rw [cell_of_blk hB]; rfl
  have hc1 : w.cell? ⟨B, 1, none⟩ = some L2 := by rw [cell_of_blk hB]; rfl
  have hvl : vs.length = N2 := by simpa using h2.1
  have hsh : ∃ ao c2, L2 = .slice ao N2 c2 ∧ ∀ i, i < N2 → ∃ g, ao = some ⟨g, 0, none⟩ ∧ w.cell? ⟨g, i, none⟩ = some (vs.getD i undef) := by
    rcases h2.2 with ⟨h, h'⟩ | ⟨g', c', cur, h, _⟩
    · exact ⟨none, 0, by rw [h, h'], by omega⟩
    · refine ⟨_, _, h, fun i hi => ⟨g', rfl, ?_⟩⟩
      subst h
      rw [h2.cellAt i (by omega)]
      simp [List.getD_eq_getElem?_getD, hvl, hi]
  obtain ⟨ao, c2, rfl, hrow⟩ := hsh
  have HV := hide hv
  have HR := hide hrow
  clear hv hrow h2 hB hvl
  go_enter Try.func33, Try.ntmps33
  go_wp2
  refine wp_loop_rounds 1 ?_
  rw [rounds_succ]
  go_wp2
  go_loop [5] (fun i => ∃ k : Nat, k ≤ N2 ∧ i = .int .i64 (k : Int)) (fun i => N2 - (intOf i).toNat)
  case atStart => exact ⟨0, Nat.zero_le _, rfl⟩
  case round =>
    obtain ⟨k, hk, rfl⟩ := hrel
    by_cases hlt : k < N2
    · obtain ⟨n, hn, hmk⟩ := HV.out k hlt
      obtain ⟨g, rfl, hcell⟩ := HR.out k hlt
      have b0 : (0 : Int) ≤ (k : Int) := by omega
      have b1 : (k : Int) < (N2 : Int) := by omega
      generalize vs.getD k undef = v at hmk hcell
      rcases hmk with ⟨rfl, rfl⟩ | ⟨gg, oo, cc, rfl, hcs⟩
      · go_wp2
        refine wp_loop_rounds 1 ?_
        rw [rounds_succ]
        go_wp2
        go_round
        case rel => exact ⟨k + 1, by omega, by go_num⟩
        case measure => simp [intOf]; omega
      · have HC := hide hcs
        clear hcs
        go_wp2
        go_loop [6] (fun i => ∃ j : Nat, j ≤ n ∧ i = .int .i64 (j : Int)) (fun i => n - (intOf i).toNat)
        case atStart => exact ⟨0, Nat.zero_le _, rfl⟩
        case round =>
          obtain ⟨j, hj, rfl⟩ := hrel
          by_cases hjl : j < n
          · have hcj := HC.out j hjl
            go_wp2
            go_round
            case rel => exact ⟨j + 1, by omega, by go_num⟩
            case measure => simp [intOf]; omega
          · go_wp2
            go_round
            case rel => exact ⟨k + 1, by omega, by go_num⟩
            case measure => simp [intOf]; omega
    · go_wp2
      go_ret
      exact ⟨rfl, rfl⟩

set_option maxHeartbeats 400000 in
theorem entriesRead_nil (n : Int) (w : World) :
    Calls Try.prog 34 #[.slice none 0 0, .int .i64 n] w fun e w' => e = .returned (.bool true) ∧ w' = w := by
  go_enter Try.func34, Try.ntmps34
  go_wp2
  refine wp_loop_rounds 1 ?_
  rw [rounds_succ]
  go_wp2
  go_ret
  exact ⟨rfl, rfl⟩

set_option maxRecDepth 100000 in
set_option maxHeartbeats 800000 in
theorem looks_of (B : Nat) (L1 L2 : Value) (w : World)
    (hB : w.heap[B]? = some (.cells #[L1, L2, .slice none 0 0, .slice none 0 0, .slice none 0 0, .slice none 0 0] 39 (0, 0)))
    (hsm : ∀ w' : World, (∃ n, w' = w.drewN n) → Calls Try.prog 33 #[.pointer (some ⟨B, 0, none⟩)] w' fun e w'' => e = .returned (.bool true) ∧ ∃ n, w'' = w.drewN n) :
    Calls Try.prog 15 #[.pointer (some ⟨B, 0, none⟩)] w fun e w' => e = .returned (.bool true) ∧ ∃ n, w' = w.drewN n := by
  have hc2 : w.cell? ⟨B, 2, none⟩ = some (.slice none 0 0) := by rw [cell_of_blk hB]; rfl
  have hc3 : w.cell? ⟨B, 3, none⟩ = some (.slice none 0 0) := by rw [cell_of_blk hB]; rfl
  have hc4 : w.cell? ⟨B, 4, none⟩ = some (.slice none 0 0) := by rw [cell_of_blk hB]; rfl
  have hc5 : w.cell? ⟨B, 5, none⟩ = some (.slice none 0 0) := by rw [cell_of_blk hB]; rfl
  have HS := hide hsm
  clear hsm hB
  go_enter Try.func15, Try.ntmps15
  go_wp2_with fail
  refine (HS.out w ⟨0, rfl⟩).mono ?_
  rintro e w1 ⟨rfl, n, rfl⟩
  go_wp2_with fail
  refine (entriesRead_nil _ _).mono ?_
  rintro e w1 ⟨rfl, rfl⟩
  go_wp2_with fail
  refine (entriesRead_nil _ _).mono ?_
  rintro e w1 ⟨rfl, rfl⟩
  go_wp2
  refine wp_loop_rounds 1 ?_
  rw [rounds_succ]
  go_wp2
  refine wp_loop_rounds 1 ?_
  rw [rounds_succ]
  go_wp2
  go_ret
  exact ⟨rfl, n, rfl⟩

end Go.Proofs.Ytoafiieciiijbaa
