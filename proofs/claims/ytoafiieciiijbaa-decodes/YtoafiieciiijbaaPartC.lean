/-
  OUR OWN: the walk of (*Book).small where lists of parts alone are in the book; (*Book).looks there.
-/
import Derived.Test.YtoafiieciiijbaaPartB
import Derived.Test.YtoafiieciiijbaaPathK
namespace Go.Proofs.Ytoafiieciiijbaa
open Go.RowKit

theorem Mk3.get {w : World} {g k : Nat} {m : Value} (h : ∀ j u, (rep3 k m)[j]? = some u → w.cell? ⟨g, j, none⟩ = some u) (j : Nat) (hj : j < k) : w.cell? ⟨g, j * 3, none⟩ = some (.bool false) ∧ w.cell? ⟨g, j * 3 + 1, none⟩ = some m ∧ w.cell? ⟨g, j * 3 + 2, none⟩ = some (.string ⟨#[]⟩) := by
  obtain ⟨a, b, c⟩ := rep3_get m k j hj
  exact ⟨h _ _ a, h _ _ b, h _ _ c⟩

set_option maxRecDepth 100000 in
set_option maxHeartbeats 1600000 in
theorem small_parts (B : Nat) (L1 l3 l4 l5 l6 : Value) (N2 : Nat) (vs : List Value) (w : World)
    (hB : w.heap[B]? = some (.cells #[L1, .slice none 0 0, l3, l4, l5, l6] 39 (0, 0))) (h2 : w.ownsRow 0 22 1 L1 N2 vs) (hN2 : N2 ≤ 100)
    (hv : ∀ i, i < N2 → ∃ k, k ≤ 2000000 ∧ Mk3 w (vs.getD i undef) k (.int .i64 (-7 - (i : Int) / 4))) :
    Calls Try.prog 33 #[.pointer (some ⟨B, 0, none⟩)] w fun e w' => e = .returned (.bool true) ∧ w' = w := by
  have hc0 : w.cell? ⟨B, 0, none⟩ = some L1 := by rw [cell_of_blk hB]; rfl
  have hc1 : w.cell? ⟨B, 1, none⟩ = some (.slice none 0 0) := by rw [cell_of_blk hB]; rfl
  have hvl : vs.length = N2 := by simpa using h2.1
  have hsh : ∃ ao c2, L1 = .slice ao N2 c2 ∧ ∀ i, i < N2 → ∃ g, ao = some ⟨g, 0, none⟩ ∧ w.cell? ⟨g, i, none⟩ = some (vs.getD i undef) := by
    rcases h2.2 with ⟨h, h'⟩ | ⟨g', c', cur, h, _⟩
    · exact ⟨none, 0, by rw [h, h'], by omega⟩
    · refine ⟨_, _, h, fun i hi => ⟨g', rfl, ?_⟩⟩
      subst h
      rw [h2.cellAt i (by omega)]
      simp [List.getD_eq_getElem?_getD, hvl, hi]
  obtain ⟨ao, c2, rfl, hrow⟩ := hsh
  have HV := hide hv
  have HR := hide hrow
  clear hv hrow h2 hB hvl
  go_enter Try.func33, Try.ntmps33
  go_wp2
  go_loop [3] (fun i => ∃ k : Nat, k ≤ N2 ∧ i = .int .i64 (k : Int)) (fun i => N2 - (intOf i).toNat)
  case atStart => exact ⟨0, Nat.zero_le _, rfl⟩
  case round =>
    obtain ⟨k, hk, rfl⟩ := hrel
    by_cases hlt : k < N2
    · obtain ⟨n, hn, hmk⟩ := HV.out k hlt
      obtain ⟨g, rfl, hcell⟩ := HR.out k hlt
      have b0 : (0 : Int) ≤ (k : Int) := by omega
      have b1 : (k : Int) < (N2 : Int) := by omega
      generalize vs.getD k undef = v at hmk hcell
      rcases hmk with ⟨rfl, rfl⟩ | ⟨gg, cc, rfl, hcs⟩
      · go_wp2
        refine wp_loop_rounds 1 ?_
        rw [rounds_succ]
        go_wp2
        go_round
        case rel => exact ⟨k + 1, by omega, by go_num⟩
        case measure => simp [intOf]; omega
      · have HC := hide hcs
        clear hcs
        go_wp2
        go_loop [4] (fun i => ∃ j : Nat, j ≤ n ∧ i = .int .i64 (j : Int)) (fun i => n - (intOf i).toNat)
        case atStart => exact ⟨0, Nat.zero_le _, rfl⟩
        case round =>
          obtain ⟨j, hj, rfl⟩ := hrel
          by_cases hjl : j < n
          · obtain ⟨p0, p1, p2⟩ := Mk3.get HC.out j hjl
            go_wp2
            go_round
            case rel => exact ⟨j + 1, by omega, by go_num⟩
            case measure => simp [intOf]; omega
          · go_wp2
            go_round
            case rel => exact ⟨k + 1, by omega, by go_num⟩
            case measure => simp [intOf]; omega
    · go_wp2
      refine wp_loop_rounds 1 ?_
      rw [rounds_succ]
      go_wp2
      go_ret
      exact ⟨rfl, rfl⟩

/-- the two lists that came out, in the book -/
theorem booked3 {w7 w8 w9 : World} {B n n2 : Nat} {lv x y z L2 lv2 : Value} (hn : n ≤ 1000000) (hn2 : n2 ≤ 1000000)
    (ml : Mk3 w7 lv n (.int .i64 (-7))) (mx : Mk3 w7 x (n + 1) (.int .i64 (-7))) (my : Mk3 w7 y (n + 2) (.int .i64 (-7))) (mz : Mk3 w7 z (n + 3) (.int .i64 (-7)))
    (a7 : ∀ u, u = lv ∨ u = x ∨ u = y ∨ u = z → ∀ k, u.ownBlock = some k → k ≠ B ∧ k < w7.heap.size ∧ L2.ownBlock ≠ some k)
    (hb : Below w7.heap.size w7 w8) (hk2 : ∀ k, lv2.ownBlock = some k → w7.heap.size ≤ k)
    (P2 : PartPost w8 w9 B (.slice none 0 0) (.slice none 0 0) (.slice none 0 0) (.slice none 0 0) (.slice none 0 0) L2 4 [lv, x, y, z] lv2 n2 (.int .i64 (-8))) :
    ∃ L vs, w9.heap[B]? = some (.cells #[L, .slice none 0 0, .slice none 0 0, .slice none 0 0, .slice none 0 0, .slice none 0 0] 39 (0, 0)) ∧ w9.ownsRow 0 22 1 L 8 vs ∧
      ∀ i, i < 8 → ∃ k, k ≤ 2000000 ∧ Mk3 w9 (vs.getD i undef) k (.int .i64 (-7 - (i : Int) / 4)) := by
  obtain ⟨L, x', y', z', hB, ho, ml', mx', my', mz', _, _⟩ := P2.ends
  have keep : ∀ {u : Value} {k : Nat}, (u = lv ∨ u = x ∨ u = y ∨ u = z) → Mk3 w7 u k (.int .i64 (-7)) → Mk3 w9 u k (.int .i64 (-7)) := by
    intro u k hu h
    refine (h.far (fun g _ hlt => hb.block g hlt)).far (fun g e hlt => ?_)
    obtain ⟨h1, h2, h3⟩ := a7 u hu g e
    exact P2.far g hlt h1 (fun e2 => by have := hk2 g e2.symm; omega) (fun e2 => h3 e2.symm)
  refine ⟨L, [lv, x, y, z, lv2, x', y', z'], hB, by simpa using ho, ?_⟩
  intro i hi
  match i, hi with
  | 0, _ => exact ⟨n, by omega, keep (.inl rfl) ml⟩
  | 1, _ => exact ⟨n + 1, by omega, keep (.inr (.inl rfl)) mx⟩
  | 2, _ => exact ⟨n + 2, by omega, keep (.inr (.inr (.inl rfl))) my⟩
  | 3, _ => exact ⟨n + 3, by omega, keep (.inr (.inr (.inr rfl))) mz⟩
  | 4, _ => exact ⟨n2, by omega, ml'⟩
  | 5, _ => exact ⟨n2 + 1, by omega, mx'⟩
  | 6, _ => exact ⟨n2 + 2, by omega, my'⟩
  | 7, _ => exact ⟨n2 + 3, by omega, mz'⟩
theorem PartPost.under {A : Nat} {w0 w w' : World} {B : Nat} {l2 l3 l4 l5 l6 L2 lv : Value} {N2 n : Nat} {rows : List Value} {m : Value} (P : PartPost w w' B l2 l3 l4 l5 l6 L2 N2 rows lv n m) (h : Below A w0 w) (hA : A ≤ w.heap.size) (hB : A ≤ B) (hl : ∀ k, lv.ownBlock = some k → A ≤ k) (h2 : ∀ k, L2.ownBlock = some k → A ≤ k) : Below A w0 w' :=
  h.trans ⟨P.os, P.tape, P.output, P.size, fun k hk => P.far k (by omega) (by omega) (fun e => by have := hl k e.symm; omega) (fun e => by have := h2 k e.symm; omega)⟩
end Go.Proofs.Ytoafiieciiijbaa
