/-
  OUR OWN: VqU.
-/
import Derived.Test.YtkegignigkhleaaDoorG35
import Derived.Test.YtkegignigkhleaaDoorG06
import Derived.Laws.CopyOwn
namespace Go.Proofs.YtkegignigkhleaaDoor
open Go.RowKit
attribute [local go_sem ↓] Go.wp_at_zero Go.wp_at_succ

theorem infoStr : (Tryd.prog.info? 9).map (fun i => (i.zero, i.size, i.bytes)) = some (some (.string ⟨#[]⟩), 1, 16) := by kernel_rfl
theorem sizeStr : (Tryd.prog.info? 9).map (·.size) = some 1 := by kernel_rfl
theorem make_strs (n : Nat) (h : n * 16 ≤ 281474976710656) (w : World) : (Instr.makeSlice 22 (.int .i64 (n : Int)) (.int .i64 (n : Int))).run Tryd.prog w =
    .ok (.slice (some ⟨w.heap.size, 0, none⟩) n n) (w.alloc (.cells (madeCells #[.string ⟨#[]⟩] n) 9)) := by
  obtain ⟨i0, hi, hz0, hz1, hz2⟩ := info_parts infoStr
  have h := run_make (P := Tryd.prog) w 22 9 i0 (.string ⟨#[]⟩) Tryd.underlying22 hi hz0 .i64 .i64 (n : Int) (n : Int) (by omega) (by omega) (by rw [hz2]; omega) (by omega)
  simpa [hz1, Value.cells] using h
theorem splice_strs (ts : List ByteArray) : splice (List.replicate (ts.length + 1) (Value.string ⟨#[]⟩)) 0 (ts.map Value.string) = ts.map Value.string ++ [Value.string ⟨#[]⟩] := by
  simp only [splice, List.take_zero, List.nil_append, Nat.zero_add, List.length_map]
  congr 1
  rw [List.drop_replicate]
  rw [show ts.length + 1 - ts.length = 1 from by omega]
  rfl
def lentT : ByteArray := ⟨#[108, 101, 110, 116]⟩
/-- what is lent -/
structure LentS (w W : World) (ts : List ByteArray) : Prop where
  own : W.heap[w.heap.size]? = some (.cells (ts.map Value.string ++ [Value.string lentT]).toArray 9 (0, 0))
  below : Below w.heap.size w W
theorem lentS_mk {w w1 : World} {ts : List ByteArray} {M : List Value} (hM : M = List.replicate (ts.length + 1) (.string ⟨#[]⟩)) (hrow : w1.heap[w.heap.size]? = some (.cells (splice M 0 (ts.map Value.string)).toArray 9 (0, 0)))
    (hb : Below w.heap.size w w1) :
    LentS w (w1.setCell ⟨w.heap.size, ts.length, none⟩ (.string lentT)) ts ∧ w1.cell? ⟨w.heap.size, ts.length, none⟩ = some (.string ⟨#[]⟩) ∧ w1.frozen? ⟨w.heap.size, ts.length, none⟩ = false := by
  rw [hM, splice_strs] at hrow
  refine ⟨⟨?_, ?_⟩, ?_, ?_⟩
  · rw [heap_setCell_same w1 w.heap.size ts.length _ 9 _ hrow]
    congr 2
    apply Array.ext_getElem?
    intro j
    rw [Array.getElem?_setIfInBounds]
    by_cases e : ts.length = j
    · subst e; simp
    · rw [if_neg e]
      simp only [List.getElem?_toArray, List.getElem?_append, List.length_map]
      by_cases h : j < ts.length
      · simp [h]
      · simp [h]
        rw [List.getElem?_eq_none (by simp; omega), List.getElem?_eq_none (by simp; omega)]
  · exact hb.setCell (by simp) _
  · rw [cell_of_row _ _ _ _ _ (0, 0) hrow]; simp
  · exact frozen_of_row _ _ _ _ _ hrow
theorem LentS.txts {w W : World} {ts : List ByteArray} (h : LentS w W ts) : Txts W (some ⟨w.heap.size, 0, none⟩) ts := fun i hi => by
  refine ⟨_, _, rfl, ?_⟩
  rw [Nat.zero_add, cell_of_row _ _ _ _ _ (0, 0) h.own]
  simp [List.getD_eq_getElem?_getD, List.getElem?_append, hi]
theorem LentS.last {w W : World} {ts : List ByteArray} (h : LentS w W ts) : W.cell? ⟨w.heap.size, ts.length, none⟩ = some (.string lentT) := by
  rw [cell_of_row _ _ _ _ _ (0, 0) h.own]; simp
theorem copy_txt (w : World) (ao : Option Addr) (cap N : Nat) (ts : List ByteArray) (M : List Value) (hN : N = ts.length + 1) (hM : M = List.replicate (ts.length + 1) (.string ⟨#[]⟩)) (hc : Txts w ao ts) :
    ∃ w1, (Builtin.copy_ #[22, 22] 3 #[.slice (some ⟨w.heap.size, 0, none⟩) N N, .slice ao ts.length cap]).run Tryd.prog (w.alloc (.cells M.toArray 9)) = .ok (.int .i64 (ts.length : Int)) w1 ∧
      w1.heap[w.heap.size]? = some (.cells (splice M 0 (ts.map Value.string)).toArray 9 (0, 0)) ∧ Below w.heap.size w w1 := by
  have hg : (w.alloc (.cells M.toArray 9)).heap[w.heap.size]? = some (.cells M.toArray 9 (0, 0)) := heap_alloc_new w _
  have hb : Below w.heap.size w (w.alloc (.cells M.toArray 9)) := below_alloc w _
  have hml : Nat.min ts.length N = ts.length := by rw [hN]; simp
  by_cases h0 : 0 < ts.length
  · have hc2 := hc.keep hb
    obtain ⟨b, off, rfl, _⟩ := hc2 0 h0
    have hsrc : ∀ j u, (ts.map Value.string)[j]? = some u → (w.alloc (.cells M.toArray 9)).cell? ((⟨b, off, none⟩ : Addr).add j) = some u := fun j u hu => by
      have hj : j < ts.length := by
        rcases Nat.lt_or_ge j ts.length with h | h
        · exact h
        · rw [List.getElem?_eq_none (by simpa using h)] at hu; cases hu
      obtain ⟨g', o', e, h⟩ := hc2 j hj
      obtain ⟨rfl, rfl⟩ : b = g' ∧ off = o' := by simpa using e
      rw [addr_add, h]
      rw [List.getElem?_map, List.getElem?_eq_getElem hj] at hu
      rw [List.getD_eq_getElem?_getD, List.getElem?_eq_getElem hj]
      simpa using hu
    have hr := run_copy_row (P := Tryd.prog) (w.alloc (.cells M.toArray 9)) 22 22 3 9 w.heap.size 0 N N ⟨b, off, none⟩ ts.length cap M.toArray 9 (ts.map Value.string) Tryd.underlying22 sizeStr hg (by rw [hml]; simp) hsrc (by rw [hM]; simp) (by
      intro u hu
      obtain ⟨t, _, rfl⟩ := List.mem_map.1 hu
      rfl)
    refine ⟨_, hr.trans (by rw [List.length_map]; rfl), ?_, below_setRow hb (Nat.le_refl _) _⟩
    rw [setRow_heap _ _ _ _ _ _ hg]
    simp [splice]
  · obtain rfl : ts = [] := List.length_eq_zero_iff.1 (by omega)
    have hr := run_copy_none (P := Tryd.prog) (w.alloc (.cells M.toArray 9)) 22 22 3 9 (some ⟨w.heap.size, 0, none⟩) ao N N 0 cap Tryd.underlying22 sizeStr (by simp)
    exact ⟨_, by rw [show ([] : List ByteArray).length = 0 from rfl, hr]; rfl, by simpa [splice] using hg, hb⟩
set_option maxHeartbeats 2000000 in
set_option maxRecDepth 20000 in
theorem sameTexts_same (ao bo : Option Addr) (ca cb : Nat) (ts : List ByteArray) (w : World) (h1 : Txts w ao ts) (h2 : Txts w bo ts) (hl : ts.length ≤ 9000000000000) :
    Calls Tryd.prog 6 #[.slice ao ts.length ca, .slice bo ts.length cb] w fun e w' => e = .returned (.bool true) ∧ Below w.heap.size w w' := by
  have H1 := hide h1
  have H2 := hide h2
  clear h1 h2
  go_enter Tryd.func6, Tryd.ntmps6
  go_wp2_with fail
  go_loopw [5] (fun iv wr => ∃ i : Nat, i ≤ ts.length ∧ iv = .int .i64 (i : Int) ∧ Below w.heap.size w wr) (fun iv _ => ts.length - (intOf iv).toNat)
  case atStart => exact ⟨0, by omega, rfl, Below.refl _ _⟩
  case round =>
    obtain ⟨i, hi, rfl, hbw⟩ := hrel
    have HB := hide hbw
    clear hbw
    by_cases hil : i < ts.length
    · have j0 : (0 : Int) ≤ (i : Int) := by omega
      have j1 : (i : Int) < (ts.length : Int) := by omega
      obtain ⟨g1, o1, rfl, x1⟩ := H1.out.keep HB.out i hil
      obtain ⟨g2, o2, rfl, x2⟩ := H2.out.keep HB.out i hil
      generalize ts.getD i eB = t at *
      go_wp2_with fail
      go_region
      all_goals go_wp2
      all_goals go_roundw
      case rel => exact ⟨i + 1, by omega, by go_num, HB.out.drew⟩
      case measure => simp [intOf]; omega
    · obtain rfl : i = ts.length := by omega
      go_wp2
      go_ret
      exact ⟨rfl, HB.out⟩
set_option maxRecDepth 100000 in
set_option maxHeartbeats 4000000 in
theorem verifies_walk (root key : ByteArray) (ao : Option Addr) (cap : Nat) (ts : List ByteArray) (w : World) (hT : Tb w) (htx : Txts w ao ts) (hts : ∀ t ∈ ts, t.size ≤ 140737488351232) (hl : ts.length ≤ 1100000) :
    Calls Tryd.prog 3 #[.string root, .string key, .slice ao ts.length cap] w fun e w' => e = .returned (.bool true) ∧ Below w.heap.size w w' := by
  obtain ⟨N, M, hN, hM, hmk⟩ : ∃ (N : Nat) (M : List Value), Hid (N = ts.length + 1) ∧ Hid (M = List.replicate (ts.length + 1) (.string ⟨#[]⟩)) ∧ ∀ w : World, (Instr.makeSlice 22 (.int .i64 ((ts.length : Int) + 1)) (.int .i64 ((ts.length : Int) + 1))).run Tryd.prog w =
    .ok (.slice (some ⟨w.heap.size, 0, none⟩) N N) (w.alloc (.cells M.toArray 9)) := ⟨ts.length + 1, _, rfl, rfl, fun w => by
      have := make_strs (ts.length + 1) (by omega) w
      rw [show ((ts.length + 1 : Nat) : Int) = (ts.length : Int) + 1 from by omega] at this
      rw [this]
      rw [← toList_madeCells_one]⟩
  have HT := hide hT
  have HC := hide htx
  have HS := hide hts
  clear hT htx hts
  go_enter Tryd.func3, Tryd.ntmps3
  have b0 : (ts.length : Int) < (N : Int) := by have := hN.out; omega
  obtain ⟨w1, hcopy, hrow, hb1⟩ := copy_txt w ao cap N ts M hN.out hM.out HC.out
  obtain ⟨hL, hcn, hfn⟩ := lentS_mk hM.out hrow hb1
  have HL := hide hL
  clear hrow hb1 hL
  unfold lentT at *
  go_wp2_with fail
  obtain ⟨W, hW⟩ : ∃ W, w1.setCell ⟨w.heap.size, ts.length, none⟩ (.string ⟨#[108, 101, 110, 116]⟩) = W := ⟨_, rfl⟩
  rw [hW] at HL ⊢
  clear hW hcn hfn hcopy hmk
  have HV := hide (cVerify_any root key (some ⟨w.heap.size, 0, none⟩) N 140737488351232 ts W (HT.out.keep HL.out.below) HL.out.txts (by have := hN.out; omega) HS.out (by omega))
  have HRv : Hid (∀ W', Below W.heap.size W W' → Calls Tryd.prog 5 #[.string root, .string key, .slice ao ts.length cap] W' fun e w' => e = ansV (verV hashOf root0 root key (nibs key.data.toList) ts) ∧ Below W'.heap.size W' w') := fun W' h => rVerify_any root key ao cap ts W' ((HC.out.keep HL.out.below).keep h) HS.out hl
  unfold ansV at *
  generalize verV hashOf root0 root key (nibs key.data.toList) ts = r at *
  obtain ⟨r1, r2, r3⟩ := r
  simp only at HV HRv
  refine HV.out.mono ?_
  rintro e w2 ⟨rfl, hb2⟩
  have HB2 : Hid (Below W.heap.size W w2) := hb2
  have HR2 := hide (HRv.out w2 hb2)
  clear hb2
  go_wp2_with fail
  refine HR2.out.mono ?_
  rintro e w3 ⟨rfl, hb3⟩
  have HB3 : Hid (Below W.heap.size W w3) := HB2.out.trans (hb3.mono HB2.out.size)
  clear hb3 HB2
  go_wp2_with fail
  refine (sameTexts_same (some ⟨w.heap.size, 0, none⟩) ao N cap ts w3 (HL.out.txts.keep HB3.out) ((HC.out.keep HL.out.below).keep HB3.out) (by omega)).mono ?_
  rintro e w4 ⟨rfl, hb4⟩
  have HB4 : Hid (Below W.heap.size W w4) := HB3.out.trans (hb4.mono HB3.out.size)
  have hlast : w4.cell? ⟨w.heap.size, ts.length, none⟩ = some (.string ⟨#[108, 101, 110, 116]⟩) := by
    have h := HL.out.last
    rw [HB4.out.cell (p := ⟨w.heap.size, ts.length, none⟩) (World.block_lt_of_cell? W _ h)]; exact h
  clear hb4 HB3
  have HF : Hid (Below w.heap.size w w4) := HL.out.below.trans (HB4.out.mono HL.out.below.size)
  go_wp2_with ((go_at_call 7; refine (num_any _ _).mono ?_; rintro e w5 ⟨rfl, rfl⟩))
  go_ret
  exact ⟨rfl, HF.out⟩
end Go.Proofs.YtkegignigkhleaaDoor
