/-
  OUR OWN: PathA PathB PathN.
-/
import Derived.Test.YtkegignigkhleaaDoorProg
import Derived.Test.YtkegignigkhleaaDoorG02
import Derived.WalkKit
import Derived.WalkSpells
import Derived.WalkLawsBesides
import Derived.BigQuiet
import Derived.Deep.QuietTactic
import Derived.Test.YtkegignigkhleaaDoorG03
import Derived.Deep.AppendLies
namespace Go.Proofs.YtkegignigkhleaaDoor
open Go.RowKit

/-- a slice of ints: what its cells read -/
def Ints (w : World) (ao : Option Addr) (zs : List Int) : Prop :=
  zs = [] ∨ ∃ b off, ao = some ⟨b, off, none⟩ ∧ ∀ j, j < zs.length → w.cell? ⟨b, off + j, none⟩ = some (.int .i64 (zs.getD j 0))
theorem Ints.row {w : World} {ao : Option Addr} {zs : List Int} (h : Ints w ao zs) (h0 : 0 < zs.length) : ∃ b off, ao = some ⟨b, off, none⟩ ∧ b < w.heap.size ∧ ∀ j, j < zs.length → w.cell? ⟨b, off + j, none⟩ = some (.int .i64 (zs.getD j 0)) := by
  rcases h with rfl | ⟨b, off, h1, h2⟩
  · simp at h0
  · exact ⟨b, off, h1, World.block_lt_of_cell? w _ (h2 0 h0), h2⟩
theorem Ints.get {w : World} {ao : Option Addr} {zs : List Int} (h : Ints w ao zs) (j : Nat) (hj : j < zs.length) : ∃ b off, ao = some ⟨b, off, none⟩ ∧ w.cell? ⟨b, off + j, none⟩ = some (.int .i64 (zs.getD j 0)) := by
  obtain ⟨b, off, h1, _, h2⟩ := h.row (by omega)
  exact ⟨b, off, h1, h2 j hj⟩
theorem Ints.keep {w w' : World} {ao : Option Addr} {zs : List Int} (h : Ints w ao zs) (hb : Below w.heap.size w w') : Ints w' ao zs := by
  by_cases h0 : 0 < zs.length
  · obtain ⟨b, off, h1, hlt, h2⟩ := h.row h0
    exact .inr ⟨b, off, h1, fun j hj => by rw [hb.cell (p := ⟨b, off + j, none⟩) hlt]; exact h2 j hj⟩
  · exact .inl (List.length_eq_zero_iff.1 (by omega))
theorem Ints.drewN {w : World} {ao : Option Addr} {zs : List Int} (h : Ints w ao zs) (n : Nat) : Ints (w.drewN n) ao zs := h
theorem Ints.own {w : World} {base e g n c : Nat} {zs : List Int} (h : w.ownsRow base e 1 (.slice (some ⟨g, 0, none⟩) n c) n (zs.map (Value.int .i64))) : Ints w (some ⟨g, 0, none⟩) zs := by
  refine .inr ⟨g, 0, rfl, fun j hj => ?_⟩
  have := h.cells (g := g) rfl j (.int .i64 (zs.getD j 0)) (by simp [List.getD_eq_getElem?_getD, hj])
  rw [← this, addr_add]
theorem Ints.nil {w : World} {ao : Option Addr} : Ints w ao [] := .inl rfl

end Go.Proofs.YtkegignigkhleaaDoor
namespace Go.Proofs.YtkegignigkhleaaDoor
open Go.RowKit

theorem info3 : (Tryd.prog.info? 3).map (fun i => (i.zero, i.size, i.bytes)) = some (some (.int .i64 0), 1, 8) := by kernel_rfl

theorem make_ints0 (n : Nat) (h : n * 8 ≤ 281474976710656) (w : World) : (Instr.makeSlice 37 (.int .i64 0) (.int .i64 (n : Int))).run Tryd.prog w =
    .ok (.slice (some ⟨w.heap.size, 0, none⟩) 0 n) (w.alloc (.cells (madeCells #[.int .i64 0] n) 3)) := by
  obtain ⟨i0, hi, hz0, hz1, hz2⟩ := info_parts info3
  have h := run_make (P := Tryd.prog) w 37 3 i0 (.int .i64 0) Tryd.underlying37 hi hz0 .i64 .i64 0 (n : Int) (by omega) (by omega) (by rw [hz2]; omega) (by omega)
  simpa [hz1, Value.cells] using h

theorem one_int (w : World) (x : Int) : ∀ j u, [Value.int .i64 x][j]? = some u → (w.alloc (.cells #[.int .i64 x] 3)).cell? ((⟨w.heap.size, 0, none⟩ : Addr).add j) = some u :=
  World.news_of_block (cs := #[.int .i64 x]) (t := 3) (fr := (0, 0)) (heap_alloc_new w _)

theorem ints_news {w : World} {b off : Nat} {zs : List Int} (h : ∀ j, j < zs.length → w.cell? ⟨b, off + j, none⟩ = some (.int .i64 (zs.getD j 0))) :
    ∀ j u, (zs.map (Value.int .i64))[j]? = some u → w.cell? ((⟨b, off, none⟩ : Addr).add j) = some u := by
  intro j u hu
  have hj : j < zs.length := by simpa using (List.getElem?_eq_some_iff.1 hu).1
  rw [addr_add, h j hj]
  rw [← hu]; simp [List.getD_eq_getElem?_getD, hj]
theorem ints_one (zs : List Int) : ∀ u ∈ zs.map (Value.int .i64), u.oneCell' = true := by
  intro u hu; simp at hu; obtain ⟨x, _, rfl⟩ := hu; rfl

theorem news_of (w : World) (l : List Value) : ∀ j u, l[j]? = some u → (w.alloc (.cells l.toArray 3)).cell? ((⟨w.heap.size, 0, none⟩ : Addr).add j) = some u :=
  World.news_of_block (cs := l.toArray) (t := 3) (fr := (0, 0)) (heap_alloc_new w _)
/-- an int slice that reads zs, as 'append' wants it -/
theorem Ints.reads {w : World} {ao : Option Addr} {cap : Nat} {zs : List Int} (h : Ints w ao zs) (hn : ao = none → cap = 0) : Reads w (.slice ao zs.length cap) zs.length (zs.map (Value.int .i64)) := by
  by_cases h0 : 0 < zs.length
  · obtain ⟨b, off, rfl, _, h2⟩ := h.row h0
    exact .inr ⟨_, _, rfl, ints_news h2⟩
  · obtain rfl : zs = [] := List.length_eq_zero_iff.1 (by omega)
    cases ao with
    | none => obtain rfl := hn rfl; exact .inl ⟨rfl, rfl, rfl⟩
    | some a => exact .inr ⟨a, cap, rfl, by simp⟩


end Go.Proofs.YtkegignigkhleaaDoor
namespace Go.Proofs.YtkegignigkhleaaDoor
open Go.RowKit

set_option maxHeartbeats 400000 in
theorem num_any (n : Int) (w : World) :
    Calls Tryd.prog 7 #[.int .i64 n] w fun e w' => e = .returned (.int .i64 n) ∧ w' = w := by
  go_enter Tryd.func7, Tryd.ntmps7
  go_wp2
  go_ret
  exact ⟨rfl, rfl⟩
end Go.Proofs.YtkegignigkhleaaDoor
