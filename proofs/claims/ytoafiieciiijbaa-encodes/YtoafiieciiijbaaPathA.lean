/-
  OUR OWN: walks of canopylaw.num, paths.isPath, canopylaw.sameNumbers.
-/
import Derived.Test.YtoafiieciiijbaaProg
import Derived.Test.YtoafiieciiijbaaPlainA
import Derived.WalkKit
import Derived.WalkSpells
import Derived.WalkLawsBesides
import Derived.BigQuiet
import Derived.Deep.QuietTactic
namespace Go.Proofs.Ytoafiieciiijbaa
open Go.RowKit

set_option maxHeartbeats 400000 in
theorem num_any (n : Int) (w : World) :
    Calls Try.prog 10 #[.int .i64 n] w fun e w' => e = .returned (.int .i64 n) ∧ w' = w := by
  go_enter Try.func10, Try.ntmps10
  go_wp2
  go_ret
  exact ⟨rfl, rfl⟩

/-- a slice of ints: what its cells read -/
def Ints (w : World) (ao : Option Addr) (zs : List Int) : Prop :=
  zs = [] ∨ ∃ b off, ao = some ⟨b, off, none⟩ ∧ ∀ j, j < zs.length → w.cell? ⟨b, off + j, none⟩ = some (.int .i64 (zs.getD j 0))
theorem Ints.row {w : World} {ao : Option Addr} {zs : List Int} (h : Ints w ao zs) (h0 : 0 < zs.length) : ∃ b off, ao = some ⟨b, off, none⟩ ∧ b < w.heap.size ∧ ∀ j, j < zs.length → w.cell? ⟨b, off + j, none⟩ = some (.int .i64 (zs.getD j 0)) := by
  rcases h with rfl | ⟨b, off, h1, h2⟩
  · simp at h0
  · exact ⟨b, off, h1, World.block_lt_of_cell? w _ (h2 0 h0), h2⟩
theorem Ints.get {w : World} {ao : Option Addr} {zs : List Int} (h : Ints w ao zs) (j : Nat) (hj : j < zs.length) : ∃ b off, ao = some ⟨b, off, none⟩ ∧ w.cell? ⟨b, off + j, none⟩ = some (.int .i64 (zs.getD j 0)) := by
  obtain ⟨b, off, h1, _, h2⟩ := h.row (by omega)
  exact ⟨b, off, h1, h2 j hj⟩
theorem Ints.keep {w w' : World} {ao : Option Addr} {zs : List Int} (h : Ints w ao zs) (hb : Below w.heap.size w w') : Ints w' ao zs := by
  by_cases h0 : 0 < zs.length
  · obtain ⟨b, off, h1, hlt, h2⟩ := h.row h0
    exact .inr ⟨b, off, h1, fun j hj => by rw [hb.cell (p := ⟨b, off + j, none⟩) hlt]; exact h2 j hj⟩
  · exact .inl (List.length_eq_zero_iff.1 (by omega))
theorem Ints.drewN {w : World} {ao : Option Addr} {zs : List Int} (h : Ints w ao zs) (n : Nat) : Ints (w.drewN n) ao zs := h
theorem Ints.own {w : World} {base e g n c : Nat} {zs : List Int} (h : w.ownsRow base e 1 (.slice (some ⟨g, 0, none⟩) n c) n (zs.map (Value.int .i64))) : Ints w (some ⟨g, 0, none⟩) zs := by
  refine .inr ⟨g, 0, rfl, fun j hj => ?_⟩
  have := h.cells (g := g) rfl j (.int .i64 (zs.getD j 0)) (by simp [List.getD_eq_getElem?_getD, hj])
  rw [← this, addr_add]
theorem Ints.nil {w : World} {ao : Option Addr} : Ints w ao [] := .inl rfl

end Go.Proofs.Ytoafiieciiijbaa
