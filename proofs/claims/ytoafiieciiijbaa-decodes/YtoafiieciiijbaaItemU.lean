/-
  OUR OWN: items: the reference's Read.
-/
import Derived.Test.YtoafiieciiijbaaItemT
namespace Go.Proofs.Ytoafiieciiijbaa
open Go.RowKit
attribute [local go_sem ↓] Go.wp_at_zero Go.wp_at_succ

theorem parts_any : ∀ (r : Nat) (w : World) (ok : Nat → Prop) (c0 c1 c2 : Value) (ps : List Prt), ItIs r w ok [c0, c1, c2] ps → ps.length ≤ 6000 → Calls Try.prog 32 #[.agg #[c0, c1, c2]] w fun e w' => PartsPost ps w e w'
  | 0, w, ok, c0, c1, c2, ps, h, hp => by
    obtain ⟨b, e, rfl⟩ := h
    simp only [List.cons.injEq, and_true] at e
    obtain ⟨rfl, rfl, rfl⟩ := e
    exact parts_text b w
  | r + 1, w, ok, c0, c1, c2, ps, h, hp => by
    rcases h with ⟨b, e, rfl⟩ | ⟨v, css, pss, e, h2, h3, h4, h5, rfl⟩
    · simp only [List.cons.injEq, and_true] at e
      obtain ⟨rfl, rfl, rfl⟩ := e
      exact parts_text b w
    · simp only [List.cons.injEq, and_true] at e
      obtain ⟨rfl, rfl, rfl⟩ := e
      exact parts_list r (parts_any r) w ok _ css pss h2 h4 h5 (by simpa using hp)

/-- what Read answers -/
def RdPost (res : Except Int (List Prt × Nat)) (n : Nat) (w : World) (e : Ending) (w' : World) : Prop :=
  match res with
  | .error x => e = .returned (.tuple #[it0, .int .i64 x]) ∧ Below w.heap.size w w'
  | .ok (ps, en) => if en < n then e = .returned (.tuple #[it0, .int .i64 5]) ∧ Below w.heap.size w w' else
    ∃ c0 c1 c2, e = .returned (.tuple #[.agg #[c0, c1, c2], .int .i64 0]) ∧ ItIs 8 w' (fun _ => True) [c0, c1, c2] ps ∧ Below w.heap.size w w'

set_option maxHeartbeats 1000000 in
set_option maxRecDepth 20000 in
theorem read_long (s : ByteArray) (w : World) (h : 6000 < s.size) (hm : s.size ≤ 9223372036854775807) :
    Calls Try.prog 31 #[.string s] w fun e w' => e = .returned (.tuple #[it0, .int .i64 1]) ∧ Below w.heap.size w w' := by
  have c1 : (6000 : Int) < (s.size : Int) := by omega
  go_enter Try.func31, Try.ntmps31
  go_wp2
  refine bodyPost_ret (v := .tuple #[it0, .int .i64 1]) (by simp [results, Try.results31, go_sem, it0]) rfl ⟨rfl, ?_⟩
  exact below_alloc _ _
set_option maxHeartbeats 2000000 in
set_option maxRecDepth 20000 in
theorem rRead_any (s : ByteArray) (w : World) (h : s.size ≤ 6000) :
    Calls Try.prog 31 #[.string s] w fun e w' => RdPost (readN s 8 0 s.size) s.size w e w' := by
  have hcut := cut_any s h 8 0 rfl 0 s.size (w.alloc (.cells #[.bool false, .string ⟨#[]⟩, .slice none 0 0] 66)) (Nat.zero_le _) (Nat.le_refl _)
  rw [show s.extract 0 s.size = s from by apply ByteArray.ext; rw [ByteArray.data_extract]; exact Array.extract_size] at hcut
  have HR0 := hide (heap_alloc_new w (.cells #[.bool false, .string ⟨#[]⟩, .slice none 0 0] 66))
  have c1 : (s.size : Int) ≤ 6000 := by omega
  have hBl : ∀ {w1 : World}, Below (w.alloc (.cells #[.bool false, .string ⟨#[]⟩, .slice none 0 0] 66)).heap.size (w.alloc (.cells #[.bool false, .string ⟨#[]⟩, .slice none 0 0] 66)) w1 → ∀ o, (w1.alloc o).heap[w.heap.size]? = some (.cells #[.bool false, .string ⟨#[]⟩, .slice none 0 0] 66 (0, 0)) := by
    intro w1 hb o
    have h1 : w.heap.size < (w.alloc (.cells #[.bool false, .string ⟨#[]⟩, .slice none 0 0] 66)).heap.size := by simp
    rw [Below.heap_alloc _ _ _ (Nat.lt_of_lt_of_le h1 hb.size), hb.block _ h1]
    exact HR0.out
  have HBL : Hid (∀ {w1 : World}, Below (w.alloc (.cells #[.bool false, .string ⟨#[]⟩, .slice none 0 0] 66)).heap.size (w.alloc (.cells #[.bool false, .string ⟨#[]⟩, .slice none 0 0] 66)) w1 → ∀ o, (w1.alloc o).heap[w.heap.size]? = some (.cells #[.bool false, .string ⟨#[]⟩, .slice none 0 0] 66 (0, 0))) := @hBl
  clear hBl
  cases hres : readN s 8 0 s.size with
  | error x =>
    rw [hres] at hcut
    have HC := hide hcut
    have hx : (x != 0) = true := by simpa using readN_err s 8 0 s.size x hres
    have hx2 : (x == 0) = false := by simpa using readN_err s 8 0 s.size x hres
    clear hcut hres
    go_enter Try.func31, Try.ntmps31
    go_wp2_with fail
    refine HC.out.mono ?_
    rintro e w1 ⟨rfl, hb⟩
    have h6 := HBL.out hb
    have y0 : ∀ o, (w1.alloc o).cell? ⟨w.heap.size, 0, none⟩ = some (.bool false) := fun o => cell_of_row _ _ 0 _ _ (0, 0) (h6 o)
    have y1 : ∀ o, (w1.alloc o).cell? ⟨w.heap.size, 1, none⟩ = some (.string ⟨#[]⟩) := fun o => cell_of_row _ _ 1 _ _ (0, 0) (h6 o)
    have y2 : ∀ o, (w1.alloc o).cell? ⟨w.heap.size, 2, none⟩ = some (.slice none 0 0) := fun o => cell_of_row _ _ 2 _ _ (0, 0) (h6 o)
    have yf : ∀ o j, (w1.alloc o).frozen? ⟨w.heap.size, j, none⟩ = false := fun o j => by unfold World.frozen?; simp [h6 o]
    have HB := hide hb
    clear h6 hb
    unfold it0
    go_wp2
    refine bodyPost_ret (v := .tuple #[it0, .int .i64 x]) (by simp [results, Try.results31, go_sem, it0, y0, y1, y2]) rfl ⟨rfl, ?_⟩
    have hw : Below w.heap.size w w1 := (below_alloc w _).trans (HB.out.mono (by simp))
    exact (((hw.alloc hw.size _).setCell (Nat.le_refl _) _).setCell (Nat.le_refl _) _).setCell (Nat.le_refl _) _
  | ok yy =>
    obtain ⟨ps, en⟩ := yy
    rw [hres] at hcut
    have HC := hide hcut
    clear hcut hres
    unfold RdPost
    by_cases hlt : en < s.size
    · simp only [if_pos hlt]
      have hln : ((en - 0 : Nat) : Int) < (s.size : Int) := by omega
      go_enter Try.func31, Try.ntmps31
      go_wp2_with fail
      refine HC.out.mono ?_
      rintro e w1 ⟨c0, c1, c2, rfl, hit, hb⟩
      obtain ⟨l0, b0, ao0, lo0, lc0, hsh⟩ := hit.shape
      simp only [List.cons.injEq, and_true] at hsh
      obtain ⟨rfl, rfl, rfl⟩ := hsh
      have h6 := HBL.out hb
      have y0 : ∀ o, (w1.alloc o).cell? ⟨w.heap.size, 0, none⟩ = some (.bool false) := fun o => cell_of_row _ _ 0 _ _ (0, 0) (h6 o)
      have y1 : ∀ o, (w1.alloc o).cell? ⟨w.heap.size, 1, none⟩ = some (.string ⟨#[]⟩) := fun o => cell_of_row _ _ 1 _ _ (0, 0) (h6 o)
      have y2 : ∀ o, (w1.alloc o).cell? ⟨w.heap.size, 2, none⟩ = some (.slice none 0 0) := fun o => cell_of_row _ _ 2 _ _ (0, 0) (h6 o)
      have yf : ∀ o j, (w1.alloc o).frozen? ⟨w.heap.size, j, none⟩ = false := fun o j => by unfold World.frozen?; simp [h6 o]
      have HB := hide hb
      clear h6 hb hit
      go_wp2
      refine bodyPost_ret (v := .tuple #[it0, .int .i64 5]) (by simp [results, Try.results31, go_sem, it0, y0, y1, y2]) rfl ⟨rfl, ?_⟩
      have hw : Below w.heap.size w w1 := (below_alloc w _).trans (HB.out.mono (by simp))
      exact (((hw.alloc hw.size _).setCell (Nat.le_refl _) _).setCell (Nat.le_refl _) _).setCell (Nat.le_refl _) _
    · simp only [if_neg hlt]
      have hln : decide (((en - 0 : Nat) : Int) < (s.size : Int)) = false := by simp; omega
      go_enter Try.func31, Try.ntmps31
      go_wp2_with fail
      refine HC.out.mono ?_
      rintro e w1 ⟨c0, c1, c2, rfl, hit, hb⟩
      obtain ⟨l0, b0, ao0, lo0, lc0, hsh⟩ := hit.shape
      simp only [List.cons.injEq, and_true] at hsh
      obtain ⟨rfl, rfl, rfl⟩ := hsh
      have h6 := HBL.out hb
      have y0 : ∀ o, (w1.alloc o).cell? ⟨w.heap.size, 0, none⟩ = some (.bool false) := fun o => cell_of_row _ _ 0 _ _ (0, 0) (h6 o)
      have y1 : ∀ o, (w1.alloc o).cell? ⟨w.heap.size, 1, none⟩ = some (.string ⟨#[]⟩) := fun o => cell_of_row _ _ 1 _ _ (0, 0) (h6 o)
      have y2 : ∀ o, (w1.alloc o).cell? ⟨w.heap.size, 2, none⟩ = some (.slice none 0 0) := fun o => cell_of_row _ _ 2 _ _ (0, 0) (h6 o)
      have yf : ∀ o j, (w1.alloc o).frozen? ⟨w.heap.size, j, none⟩ = false := fun o j => by unfold World.frozen?; simp [h6 o]
      have HB := hide hb
      have HIT := hide hit
      have hne : ¬ w1.heap.size = w.heap.size := by have := hb.size; simp at this; omega
      clear h6 hb hit
      go_wp2
      refine bodyPost_ret (v := .tuple #[.agg #[.bool l0, .string b0, .slice ao0 lo0 lc0], .int .i64 0]) (by simp [results, Try.results31, go_sem, y0, y1, y2]) rfl ⟨.bool l0, .string b0, .slice ao0 lo0 lc0, rfl, ?_, ?_⟩
      · refine HIT.out.keep (fun k hk1 hk => ⟨?_, trivial⟩)
        have hkn : k ≠ w.heap.size := by simp at hk1; omega
        rw [Below.heap_setCell _ _ _ _ hkn, Below.heap_setCell _ _ _ _ hkn, Below.heap_setCell _ _ _ _ hkn, Below.heap_alloc _ _ _ hk]
      · have hw : Below w.heap.size w w1 := (below_alloc w _).trans (HB.out.mono (by simp))
        exact (((hw.alloc hw.size _).setCell (Nat.le_refl _) _).setCell (Nat.le_refl _) _).setCell (Nat.le_refl _) _
end Go.Proofs.Ytoafiieciiijbaa
