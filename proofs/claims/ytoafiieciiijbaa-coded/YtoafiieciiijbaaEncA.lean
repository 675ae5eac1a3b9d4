/-
  OUR OWN: codes: the bytes of a length: slices.Reverse at up to three bytes, the program's lengthBytes.
-/
import Derived.Test.YtoafiieciiijbaaItemC
import Derived.Test.YtoafiieciiijbaaLawsB
namespace Go.Proofs.Ytoafiieciiijbaa
open Go.RowKit
attribute [local go_sem ↓] Go.wp_at_zero Go.wp_at_succ

theorem below_set {w w' : World} {B g j : Nat} (h : Below B w w') (hg : B ≤ g) (u : Value) : Below B w (w'.setCell ⟨g, j, none⟩ u) := h.setCell hg u

set_option maxHeartbeats 1000000 in
set_option maxRecDepth 20000 in
theorem reverse_one (base g c : Nat) (x : Int) (w : World) (_h : w.ownsRow base 5 1 (.slice (some ⟨g, 0, none⟩) 1 c) 1 [.int .u8 x]) :
    Calls Try.prog 69 #[.slice (some ⟨g, 0, none⟩) 1 c] w fun e w' => e = .returned (.tuple #[]) ∧ w' = w := by
  go_enter Try.func69, Try.ntmps69
  go_wp2
  refine wp_loop_rounds 1 ?_
  rw [rounds_succ]
  go_wp2
  go_end0
  exact ⟨rfl, rfl⟩

set_option maxHeartbeats 1000000 in
set_option maxRecDepth 20000 in
theorem reverse_two (base g c : Nat) (x y : Int) (w : World) (h : w.ownsRow base 5 1 (.slice (some ⟨g, 0, none⟩) 2 c) 2 [.int .u8 x, .int .u8 y]) (hb : base ≤ g) :
    Calls Try.prog 69 #[.slice (some ⟨g, 0, none⟩) 2 c] w fun e w' => e = .returned (.tuple #[]) ∧ w'.ownsRow base 5 1 (.slice (some ⟨g, 0, none⟩) 2 c) 2 [.int .u8 y, .int .u8 x] ∧ Below base w w' := by
  have h0 : w.cell? ⟨g, 0, none⟩ = some (.int .u8 x) := by rw [h.cellAt 0 (by omega)]; rfl
  have h1 : w.cell? ⟨g, 1, none⟩ = some (.int .u8 y) := by rw [h.cellAt 1 (by omega)]; rfl
  have f0 := h.frozenAt 0
  have f1 := h.frozenAt 1
  have HO := hide h
  clear h
  go_enter Try.func69, Try.ntmps69
  go_wp2
  refine wp_loop_rounds 2 ?_
  rw [rounds_succ]
  go_wp2
  go_region
  all_goals
    go_wp2
    rw [rounds_succ]
    go_wp2
    go_end0
    refine ⟨rfl, ?_⟩
    first
    | (have o1 := HO.out.stored 0 (.int .u8 y); have o2 := o1.1.stored 1 (.int .u8 x); exact ⟨o2.1, below_set (below_set (below_drewN (Below.refl _ _) _) hb _) hb _⟩)
    | (have o1 := HO.out.stored 1 (.int .u8 x); have o2 := o1.1.stored 0 (.int .u8 y); exact ⟨o2.1, below_set (below_set (below_drewN (Below.refl _ _) _) hb _) hb _⟩)
set_option maxHeartbeats 1000000 in
set_option maxRecDepth 20000 in
theorem reverse_three (base g c : Nat) (x z y : Int) (w : World) (h : w.ownsRow base 5 1 (.slice (some ⟨g, 0, none⟩) 3 c) 3 [.int .u8 x, .int .u8 z, .int .u8 y]) (hb : base ≤ g) :
    Calls Try.prog 69 #[.slice (some ⟨g, 0, none⟩) 3 c] w fun e w' => e = .returned (.tuple #[]) ∧ w'.ownsRow base 5 1 (.slice (some ⟨g, 0, none⟩) 3 c) 3 [.int .u8 y, .int .u8 z, .int .u8 x] ∧ Below base w w' := by
  have h0 : w.cell? ⟨g, 0, none⟩ = some (.int .u8 x) := by rw [h.cellAt 0 (by omega)]; rfl
  have h1 : w.cell? ⟨g, 2, none⟩ = some (.int .u8 y) := by rw [h.cellAt 2 (by omega)]; rfl
  have f0 := h.frozenAt 0
  have f1 := h.frozenAt 2
  have HO := hide h
  clear h
  go_enter Try.func69, Try.ntmps69
  go_wp2
  refine wp_loop_rounds 2 ?_
  rw [rounds_succ]
  go_wp2
  go_region
  all_goals
    go_wp2
    rw [rounds_succ]
    go_wp2
    go_end0
    refine ⟨rfl, ?_⟩
    first
    | (have o1 := HO.out.stored 0 (.int .u8 y); have o2 := o1.1.stored 2 (.int .u8 x); exact ⟨o2.1, below_set (below_set (below_drewN (Below.refl _ _) _) hb _) hb _⟩)
    | (have o1 := HO.out.stored 2 (.int .u8 x); have o2 := o1.1.stored 0 (.int .u8 y); exact ⟨o2.1, below_set (below_set (below_drewN (Below.refl _ _) _) hb _) hb _⟩)
end Go.Proofs.Ytoafiieciiijbaa
