/-
  OUR OWN: items: sameParts at equal parts.
-/
import Derived.Test.YtoafiieciiijbaaItemV
namespace Go.Proofs.Ytoafiieciiijbaa
open Go.RowKit
attribute [local go_sem ↓] Go.wp_at_zero Go.wp_at_succ

/-- a slice that reads as these parts -/
def Prts (w : World) (ao : Option Addr) (ps : List Prt) : Prop := ps = [] ∨ ∃ b, ao = some ⟨b, 0, none⟩ ∧ ∀ j u, (pcells ps)[j]? = some u → w.cell? ⟨b, j, none⟩ = some u

theorem pcells_nth (ps : List Prt) (k : Nat) (h : k < ps.length) : (pcells ps)[k * 3]? = some (.bool (ps.getD k (false, 0, ⟨#[]⟩)).1) ∧ (pcells ps)[k * 3 + 1]? = some (.int .i64 ((ps.getD k (false, 0, ⟨#[]⟩)).2.1 : Int)) ∧ (pcells ps)[k * 3 + 2]? = some (.string (ps.getD k (false, 0, ⟨#[]⟩)).2.2) := by
  have e : ps = ps.take k ++ ps.getD k (false, 0, ⟨#[]⟩) :: ps.drop (k + 1) := by
    simp [List.getD_eq_getElem?_getD, h]
  have hk : (ps.take k).length = k := by simp; omega
  have hl : (pcells (ps.take k)).length = k * 3 := by rw [pcells_length, hk]
  have h2 : pcells ps = pcells (ps.take k) ++ pcells (ps.getD k (false, 0, ⟨#[]⟩) :: ps.drop (k + 1)) := by rw [← pcells_append, ← e]
  rw [h2]
  refine ⟨?_, ?_, ?_⟩
  · rw [List.getElem?_append_right (by omega), hl, Nat.sub_self]; simp [pcells, pcell]
  · rw [List.getElem?_append_right (by omega), hl, show k * 3 + 1 - k * 3 = 1 from by omega]; simp [pcells, pcell]
  · rw [List.getElem?_append_right (by omega), hl, show k * 3 + 2 - k * 3 = 2 from by omega]; simp [pcells, pcell]

theorem Prts.get {w : World} {ao : Option Addr} {ps : List Prt} (h : Prts w ao ps) (k : Nat) (hk : k < ps.length) : ∃ b, ao = some ⟨b, 0, none⟩ ∧ w.cell? ⟨b, k * 3, none⟩ = some (.bool (ps.getD k (false, 0, ⟨#[]⟩)).1) ∧ w.cell? ⟨b, k * 3 + 1, none⟩ = some (.int .i64 ((ps.getD k (false, 0, ⟨#[]⟩)).2.1 : Int)) ∧ w.cell? ⟨b, k * 3 + 2, none⟩ = some (.string (ps.getD k (false, 0, ⟨#[]⟩)).2.2) := by
  rcases h with rfl | ⟨b, rfl, h⟩
  · simp at hk
  · obtain ⟨h0, h1, h2⟩ := pcells_nth ps k hk
    exact ⟨b, rfl, h _ _ h0, h _ _ h1, h _ _ h2⟩

set_option maxHeartbeats 1000000 in
set_option maxRecDepth 20000 in
theorem sameParts_eq (ao bo : Option Addr) (c d : Nat) (ps : List Prt) (w : World) (hm : ps.length ≤ 6000) (ha : Prts w ao ps) (hb : Prts w bo ps) :
    Calls Try.prog 13 #[.slice ao ps.length c, .slice bo ps.length d] w fun e w' => e = .returned (.bool true) ∧ ∃ n, w' = w.drewN n := by
  have HA := hide ha
  have HB := hide hb
  have hmI : (ps.length : Int) ≤ 6000 := by omega
  clear ha hb
  go_enter Try.func13, Try.ntmps13
  go_wp2
  go_loopw [5] (fun i wr => ∃ k : Nat, k ≤ ps.length ∧ i = .int .i64 k ∧ ∃ n, wr = w.drewN n) (fun i _ => ps.length - (intOf i).toNat)
  case atStart => exact ⟨0, Nat.zero_le _, rfl, 0, rfl⟩
  case round =>
    obtain ⟨k, hk, rfl, n, rfl⟩ := hrel
    by_cases hlt : k < ps.length
    · obtain ⟨b1, rfl, p0, p1, p2⟩ := HA.out.get k hlt
      obtain ⟨b2, rfl, q0, q1, q2⟩ := HB.out.get k hlt
      generalize ps.getD k (false, 0, ⟨#[]⟩) = P at *
      obtain ⟨pl, pc, pd⟩ := P
      simp only at p0 p1 p2 q0 q1 q2
      have h0 : (0 : Int) ≤ (k : Int) := by omega
      have h1 : (k : Int) < (ps.length : Int) := by omega
      go_wp2
      go_quiet (fail)
      go_wp2
      go_roundw
      case rel => exact ⟨k + 1, by omega, by go_num, n + nq, rfl⟩
      case measure => simp [intOf]; omega
    · go_wp2
      go_ret
      exact ⟨rfl, n, rfl⟩
end Go.Proofs.Ytoafiieciiijbaa
