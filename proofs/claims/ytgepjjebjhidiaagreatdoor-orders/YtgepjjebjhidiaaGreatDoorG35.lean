/-
  OUR OWN: MaD MaE MaF.
-/
import Derived.Test.YtgepjjebjhidiaaGreatDoorG34
namespace Go.Proofs.YtgepjjebjhidiaaGreatDoor
open Go.RowKit
attribute [local go_sem ↓] Go.wp_at_zero Go.wp_at_succ

theorem LaSt.fin {w W : World} {p : Pr} {ov : Value} {xs : List Pr} (h : LaSt w p W ov xs) : W.ownsRow w.heap.size 32 2 ov xs.length (pairCells xs) := by
  refine ⟨h.own.1, ?_⟩
  rcases h.own.2 with h4 | ⟨g, c, cur, k1, k2, k3, k4⟩
  · exact .inl h4
  · exact .inr ⟨g, c, cur, k1, by omega, k3, k4⟩
theorem LaSt.cells {w W : World} {p : Pr} {ov : Value} {xs : List Pr} (h : LaSt w p W ov xs) : W.cell? ⟨w.heap.size, 0, none⟩ = some (.string p.1) ∧ W.cell? ⟨w.heap.size, 1, none⟩ = some (.string p.2) := ⟨cell_of_row _ _ 0 _ _ (0, 0) h.box, cell_of_row _ _ 1 _ _ (0, 0) h.box⟩
theorem LaSt.at' {w W : World} {p : Pr} {ov : Value} {xs : List Pr} {g o : Nat} {m : List Pr} (h : LaSt w p W ov xs) (hm : Prs w (some ⟨g, o, none⟩) m) {i : Nat} (hi : i < m.length) : W.cell? ⟨g, o + i * 2, none⟩ = some (.string (m.getD i pr0).1) := by
  obtain ⟨g', o', e, c1, _⟩ := hm.keep h.bel i hi
  obtain ⟨rfl, rfl⟩ : g = g' ∧ o = o' := by simpa using e
  exact c1
set_option maxHeartbeats 4000000 in
set_option maxRecDepth 20000 in
theorem laid_some (g o cap : Nat) (m : List Pr) (p : Pr) (w : World) (hm : Prs w (some ⟨g, o, none⟩) m) (hc : m.length ≤ cap) (hl : m.length ≤ 1000000) :
    Calls Tryz.prog 9 #[.slice (some ⟨g, o, none⟩) m.length cap, .agg #[.string p.1, .string p.2]] w fun e w' => ∃ v, e = .returned v ∧ w'.ownsRow w.heap.size 32 2 v (laidL m p).length (pairCells (laidL m p)) ∧ Below w.heap.size w w' := by
  obtain ⟨i0, hi, hz0, hz1, hz2⟩ := info_parts infoPair
  have HM := hide hm
  have HS := hide (LaSt.start w p)
  have HLa : Hid (laidL m p = m.take (atL m p.1) ++ (if p.2.size = 0 then [] else [p]) ++ m.drop (endL m p.1)) := rfl
  have HAl := hide (atL_le m p.1)
  obtain ⟨k, v⟩ := p
  dsimp only at *
  generalize hLL : laidL m (k, v) = LL at *
  clear hm hLL
  go_enter Tryz.func9, Tryz.ntmps9
  go_wp2_with fail
  go_loopw [6] (fun iv wr => ∃ i : Nat, i ≤ atL m k ∧ iv = .int .i64 (i : Int) ∧ LaSt w (k, v) wr (.slice none 0 0) []) (fun iv _ => m.length - (intOf iv).toNat)
  case atStart => exact ⟨0, by omega, rfl, HS.out⟩
  case round =>
    obtain ⟨i, hia, rfl, hst⟩ := hrel
    have HT := hide hst
    obtain ⟨b1, b2⟩ := hst.cells
    dsimp only at b1 b2
    have j0 : (0 : Int) ≤ (i : Int) := by omega
    by_cases hlt : i < atL m k
    · have hil : i < m.length := Nat.lt_of_lt_of_le hlt HAl.out
      have j1 : (i : Int) < (m.length : Int) := by omega
      have x1 := hst.at' HM.out hil
      have hless := atL_lt m k i hlt
      clear hst
      generalize (m.getD i pr0).1 = q at *
      go_wp2
      go_quiet (fail)
      go_wp2
      go_roundw
      case rel => exact ⟨i + 1, by omega, by go_num, HT.out.keep (by first | exact drew_below _ _ | exact Below.refl _ _)⟩
      case measure => simp [intOf]; omega
    · have hie : i = atL m k := by omega
      have HIe := hide hie
      have hil0 : i ≤ m.length := by have := HAl.out; omega
      have HTl : Hid ((m.take i).length = i) := by show _ = _; simp; omega
      have HTl2 : Hid ((([] : List Pr) ++ m.take i).length = i) := by show _ = _; simp; omega
      have hmI : (m.length : Int) ≤ 1000000 := by omega
      have hmc : (m.length : Int) ≤ (cap : Int) := by omega
      have hiI : (i : Int) ≤ (m.length : Int) := by omega
      have hiC : (i : Int) ≤ (cap : Int) := by omega
      have HRa : Hid (∀ W, Below w.heap.size w W → Reads W (.slice (some ⟨g, o, none⟩) i cap) i (pairCells (m.take i))) := fun W hW => by
        have h := prs_reads (HM.out.keep hW) 0 i cap (by omega)
        simpa using h
      clear hia hlt hie
      by_cases hil : i < m.length
      · have j1 : (i : Int) < (m.length : Int) := by omega
        have XX : Hid (∀ W, Below w.heap.size w W → W.cell? ⟨g, o + i * 2, none⟩ = some (.string (m.getD i pr0).1)) := fun W hW => by
          obtain ⟨g', o', e, c1, _⟩ := HM.out.keep hW i hil
          obtain ⟨rfl, rfl⟩ : g = g' ∧ o = o' := by simpa using e
          exact c1
        have x1 := XX.out _ HT.out.bel
        have hless : Op.bytesLess (m.getD i pr0).1.toList k.toList = false := by have h := atL_ge m k (by rw [← HIe.out]; exact hil); rwa [← HIe.out] at h
        by_cases hqk : (m.getD i pr0).1 = k
        · have HEn : Hid (endL m k = i + 1) := by show _ = _; unfold endL; rw [← HIe.out, if_pos ⟨hil, hqk⟩]
          rw [hqk] at x1 XX hless
          by_cases hv : v.size = 0
          · by_cases hcj : cap = i + 1
            · have hcs := hcj.symm
              subst hcs
              have HE : Hid (LL = m.take i ++ [] ++ m.drop (i + 1)) := by
                show _ = _
                rw [HLa.out, ← HIe.out, HEn.out, if_pos hv]
              have HRc : Hid (∀ W, Below w.heap.size w W → Reads W (.slice (some ⟨g, o, none⟩) (0) (0)) (0) (pairCells (m.drop (i + 1)))) := fun W hW => by
                have e2 : m.drop (i + 1) = [] := List.drop_eq_nil_of_le (by omega)
                rw [e2]
                exact .inr ⟨_, _, rfl, fun j u h => by simp [pairCells] at h⟩
              have hj2 : (i : Int) + 1 ≤ (m.length : Int) := by omega
              obtain rfl : v = e0 := e0_of hv
              clear hst
              go_wp2
              go_quiet (fail)
              have HT1 := hide (HT.out.keep (drew_below wr nq))
              generalize wr.drewN nq = W1 at *
              obtain ⟨b1, b2⟩ := HT1.out.cells
              have x1 := XX.out W1 HT1.out.bel
              dsimp only at b1 b2
              go_wp2_with (first | (at_builtin; (refine wpList_append_reads rfl (.tmp 23) (.tmp 26) 22 rfl (w.heap.size + 1) 32 i0 _ 2 32 Tryz.underlying22 hi hz0 hz1 hz2 rfl (by decide) _ 0 (pairCells []) rfl HT1.out.own _ i (pairCells (m.take i)) rfl (HRa.out _ HT1.out.bel) (by rw [pairCells_len]; simp; omega) (pairCells_one _) (by unfold maxLen; omega) (by omega) (Nat.succ_le_of_lt (Array.getElem?_eq_some_iff.1 HT1.out.box).1) ?_); intro v3 w3 ho3 hg3; (have HT3 := hide (HT1.out.app (ys := m.take i) (by rw [HTl.out]; exact ho3) hg3)); (obtain ⟨b1, b2⟩ := HT3.out.cells); (dsimp only at b1 b2); (have x1 := XX.out w3 HT3.out.bel); clear ho3 hg3))
              go_quiet (fail)
              have HT6 := hide (HT3.out.keep (drew_below w3 nq))
              generalize w3.drewN nq = W6 at *
              go_wp2_with (at_builtin; go_must (refine wpList_append_reads rfl (.tmp 51) (.tmp 54) 22 rfl (w.heap.size + 1) 32 i0 _ 2 32 Tryz.underlying22 hi hz0 hz1 hz2 rfl (by decide) _ ((([] : List Pr) ++ m.take i).length) (pairCells (([] : List Pr) ++ m.take i)) rfl HT6.out.own _ (0) (pairCells (m.drop (i + 1))) rfl (HRc.out _ HT6.out.bel) (by rw [pairCells_len, List.length_drop] <;> first | rfl | omega) (pairCells_one _) (by simp only [List.length_append, HTl.out, List.length_nil]; unfold maxLen; omega) (by simp only [List.length_append, HTl.out, List.length_nil]; omega) (Nat.succ_le_of_lt (Array.getElem?_eq_some_iff.1 HT6.out.box).1) ?_); intro v7 w7 ho7 hg7; (have HT7 := hide (HT6.out.app (ys := m.drop (i + 1)) (by rw [List.length_drop, show m.length - (i + 1) = 0 from by omega]; exact ho7) hg7)); clear ho7 hg7)
              go_ret
              have HF := HT7.out.fin
              refine ⟨_, rfl, ?_, HT7.out.bel⟩
              rw [HE.out]
              simpa using HF
            · -- eq
              have HE : Hid (LL = m.take i ++ [] ++ m.drop (i + 1)) := by
                show _ = _
                rw [HLa.out, ← HIe.out, HEn.out, if_pos hv]
              have HRc : Hid (∀ W, Below w.heap.size w W → Reads W (.slice (some ⟨g, o + (i + 1) * 2, none⟩) (m.length - (i + 1)) (cap - (i + 1))) (m.length - (i + 1)) (pairCells (m.drop (i + 1)))) := fun W hW => by
                have h := prs_reads (HM.out.keep hW) (i + 1) (m.length - (i + 1)) (cap - (i + 1)) (by omega)
                rwa [List.take_of_length_le (by rw [List.length_drop]; exact Nat.le_refl _)] at h
              have hj2 : (i : Int) + 1 ≤ (m.length : Int) := by omega
              have hcI : (i : Int) + 1 < (cap : Int) := by omega
              have hcN : i + 1 < cap := by omega
              obtain rfl : v = e0 := e0_of hv
              clear hst
              go_wp2
              go_quiet (fail)
              have HT1 := hide (HT.out.keep (drew_below wr nq))
              generalize wr.drewN nq = W1 at *
              obtain ⟨b1, b2⟩ := HT1.out.cells
              have x1 := XX.out W1 HT1.out.bel
              dsimp only at b1 b2
              go_wp2_with (first | (at_builtin; (refine wpList_append_reads rfl (.tmp 23) (.tmp 26) 22 rfl (w.heap.size + 1) 32 i0 _ 2 32 Tryz.underlying22 hi hz0 hz1 hz2 rfl (by decide) _ 0 (pairCells []) rfl HT1.out.own _ i (pairCells (m.take i)) rfl (HRa.out _ HT1.out.bel) (by rw [pairCells_len]; simp; omega) (pairCells_one _) (by unfold maxLen; omega) (by omega) (Nat.succ_le_of_lt (Array.getElem?_eq_some_iff.1 HT1.out.box).1) ?_); intro v3 w3 ho3 hg3; (have HT3 := hide (HT1.out.app (ys := m.take i) (by rw [HTl.out]; exact ho3) hg3)); (obtain ⟨b1, b2⟩ := HT3.out.cells); (dsimp only at b1 b2); (have x1 := XX.out w3 HT3.out.bel); clear ho3 hg3))
              go_quiet (fail)
              have HT6 := hide (HT3.out.keep (drew_below w3 nq))
              generalize w3.drewN nq = W6 at *
              go_wp2_with (at_builtin; go_must (refine wpList_append_reads rfl (.tmp 51) (.tmp 54) 22 rfl (w.heap.size + 1) 32 i0 _ 2 32 Tryz.underlying22 hi hz0 hz1 hz2 rfl (by decide) _ ((([] : List Pr) ++ m.take i).length) (pairCells (([] : List Pr) ++ m.take i)) rfl HT6.out.own _ (m.length - (i + 1)) (pairCells (m.drop (i + 1))) rfl (HRc.out _ HT6.out.bel) (by rw [pairCells_len, List.length_drop] <;> first | rfl | omega) (pairCells_one _) (by simp only [List.length_append, HTl.out, List.length_nil]; unfold maxLen; omega) (by simp only [List.length_append, HTl.out, List.length_nil]; omega) (Nat.succ_le_of_lt (Array.getElem?_eq_some_iff.1 HT6.out.box).1) ?_); intro v7 w7 ho7 hg7; (have HT7 := hide (HT6.out.app (ys := m.drop (i + 1)) (by rw [List.length_drop]; exact ho7) hg7)); clear ho7 hg7)
              go_ret
              have HF := HT7.out.fin
              refine ⟨_, rfl, ?_, HT7.out.bel⟩
              rw [HE.out]
              simpa using HF
          · by_cases hcj : cap = i + 1
            · have hcs := hcj.symm
              subst hcs
              have HE : Hid (LL = m.take i ++ [(k, v)] ++ m.drop (i + 1)) := by
                show _ = _
                rw [HLa.out, ← HIe.out, HEn.out, if_neg hv]
              have HRc : Hid (∀ W, Below w.heap.size w W → Reads W (.slice (some ⟨g, o, none⟩) (0) (0)) (0) (pairCells (m.drop (i + 1)))) := fun W hW => by
                have e2 : m.drop (i + 1) = [] := List.drop_eq_nil_of_le (by omega)
                rw [e2]
                exact .inr ⟨_, _, rfl, fun j u h => by simp [pairCells] at h⟩
              have hv3 := isEmptyV hv
              have hj2 : (i : Int) + 1 ≤ (m.length : Int) := by omega
              clear hst
              go_wp2
              go_quiet (fail)
              have HT1 := hide (HT.out.keep (drew_below wr nq))
              generalize wr.drewN nq = W1 at *
              obtain ⟨b1, b2⟩ := HT1.out.cells
              have x1 := XX.out W1 HT1.out.bel
              dsimp only at b1 b2
              go_wp2_with (first | (at_builtin; (refine wpList_append_reads rfl (.tmp 23) (.tmp 26) 22 rfl (w.heap.size + 1) 32 i0 _ 2 32 Tryz.underlying22 hi hz0 hz1 hz2 rfl (by decide) _ 0 (pairCells []) rfl HT1.out.own _ i (pairCells (m.take i)) rfl (HRa.out _ HT1.out.bel) (by rw [pairCells_len]; simp; omega) (pairCells_one _) (by unfold maxLen; omega) (by omega) (Nat.succ_le_of_lt (Array.getElem?_eq_some_iff.1 HT1.out.box).1) ?_); intro v3 w3 ho3 hg3; (have HT3 := hide (HT1.out.app (ys := m.take i) (by rw [HTl.out]; exact ho3) hg3)); (obtain ⟨b1, b2⟩ := HT3.out.cells); (dsimp only at b1 b2); (have x1 := XX.out w3 HT3.out.bel); clear ho3 hg3) | (at_builtin; (refine wpList_append_reads rfl (.tmp 31) (.tmp 33) 22 rfl (w.heap.size + 1) 32 i0 _ 2 32 Tryz.underlying22 hi hz0 hz1 hz2 rfl (by decide) _ ((([] : List Pr) ++ m.take i).length) (pairCells (([] : List Pr) ++ m.take i)) rfl (HT3.out.keep (below_alloc _ _)).own _ 1 (pairCells [(k, v)]) rfl (.inr ⟨⟨w3.heap.size, 0, none⟩, 1, rfl, World.news_of_block (heap_alloc_new w3 (.cells #[.string k, .string v] 32))⟩) rfl (pairCells_one _) (by rw [HTl2.out]; unfold maxLen; omega) (by rw [HTl2.out]; omega) (Nat.succ_le_of_lt (Array.getElem?_eq_some_iff.1 (HT3.out.keep (below_alloc _ (.cells #[.string k, .string v] 32))).box).1) ?_); intro v5 w5 ho5 hg5; (have HT5 := hide ((HT3.out.keep (below_alloc _ _)).app (ys := [(k, v)]) ho5 hg5)); (obtain ⟨b1, b2⟩ := HT5.out.cells); (dsimp only at b1 b2); (have x1 := XX.out w5 HT5.out.bel); clear ho5 hg5))
              go_quiet (fail)
              have HT6 := hide (HT5.out.keep (drew_below w5 nq))
              generalize w5.drewN nq = W6 at *
              go_wp2_with (at_builtin; go_must (refine wpList_append_reads rfl (.tmp 51) (.tmp 54) 22 rfl (w.heap.size + 1) 32 i0 _ 2 32 Tryz.underlying22 hi hz0 hz1 hz2 rfl (by decide) _ ((([] : List Pr) ++ m.take i ++ [(k, v)]).length) (pairCells (([] : List Pr) ++ m.take i ++ [(k, v)])) rfl HT6.out.own _ (0) (pairCells (m.drop (i + 1))) rfl (HRc.out _ HT6.out.bel) (by rw [pairCells_len, List.length_drop] <;> first | rfl | omega) (pairCells_one _) (by simp only [List.length_append, HTl.out, List.length_nil, List.length_cons]; unfold maxLen; omega) (by simp only [List.length_append, HTl.out, List.length_nil, List.length_cons]; omega) (Nat.succ_le_of_lt (Array.getElem?_eq_some_iff.1 HT6.out.box).1) ?_); intro v7 w7 ho7 hg7; (have HT7 := hide (HT6.out.app (ys := m.drop (i + 1)) (by rw [List.length_drop, show m.length - (i + 1) = 0 from by omega]; exact ho7) hg7)); clear ho7 hg7)
              go_ret
              have HF := HT7.out.fin
              refine ⟨_, rfl, ?_, HT7.out.bel⟩
              rw [HE.out]
              simpa using HF
            · -- eq
              have HE : Hid (LL = m.take i ++ [(k, v)] ++ m.drop (i + 1)) := by
                show _ = _
                rw [HLa.out, ← HIe.out, HEn.out, if_neg hv]
              have HRc : Hid (∀ W, Below w.heap.size w W → Reads W (.slice (some ⟨g, o + (i + 1) * 2, none⟩) (m.length - (i + 1)) (cap - (i + 1))) (m.length - (i + 1)) (pairCells (m.drop (i + 1)))) := fun W hW => by
                have h := prs_reads (HM.out.keep hW) (i + 1) (m.length - (i + 1)) (cap - (i + 1)) (by omega)
                rwa [List.take_of_length_le (by rw [List.length_drop]; exact Nat.le_refl _)] at h
              have hv3 := isEmptyV hv
              have hj2 : (i : Int) + 1 ≤ (m.length : Int) := by omega
              have hcI : (i : Int) + 1 < (cap : Int) := by omega
              have hcN : i + 1 < cap := by omega
              clear hst
              go_wp2
              go_quiet (fail)
              have HT1 := hide (HT.out.keep (drew_below wr nq))
              generalize wr.drewN nq = W1 at *
              obtain ⟨b1, b2⟩ := HT1.out.cells
              have x1 := XX.out W1 HT1.out.bel
              dsimp only at b1 b2
              go_wp2_with (first | (at_builtin; (refine wpList_append_reads rfl (.tmp 23) (.tmp 26) 22 rfl (w.heap.size + 1) 32 i0 _ 2 32 Tryz.underlying22 hi hz0 hz1 hz2 rfl (by decide) _ 0 (pairCells []) rfl HT1.out.own _ i (pairCells (m.take i)) rfl (HRa.out _ HT1.out.bel) (by rw [pairCells_len]; simp; omega) (pairCells_one _) (by unfold maxLen; omega) (by omega) (Nat.succ_le_of_lt (Array.getElem?_eq_some_iff.1 HT1.out.box).1) ?_); intro v3 w3 ho3 hg3; (have HT3 := hide (HT1.out.app (ys := m.take i) (by rw [HTl.out]; exact ho3) hg3)); (obtain ⟨b1, b2⟩ := HT3.out.cells); (dsimp only at b1 b2); (have x1 := XX.out w3 HT3.out.bel); clear ho3 hg3) | (at_builtin; (refine wpList_append_reads rfl (.tmp 31) (.tmp 33) 22 rfl (w.heap.size + 1) 32 i0 _ 2 32 Tryz.underlying22 hi hz0 hz1 hz2 rfl (by decide) _ ((([] : List Pr) ++ m.take i).length) (pairCells (([] : List Pr) ++ m.take i)) rfl (HT3.out.keep (below_alloc _ _)).own _ 1 (pairCells [(k, v)]) rfl (.inr ⟨⟨w3.heap.size, 0, none⟩, 1, rfl, World.news_of_block (heap_alloc_new w3 (.cells #[.string k, .string v] 32))⟩) rfl (pairCells_one _) (by rw [HTl2.out]; unfold maxLen; omega) (by rw [HTl2.out]; omega) (Nat.succ_le_of_lt (Array.getElem?_eq_some_iff.1 (HT3.out.keep (below_alloc _ (.cells #[.string k, .string v] 32))).box).1) ?_); intro v5 w5 ho5 hg5; (have HT5 := hide ((HT3.out.keep (below_alloc _ _)).app (ys := [(k, v)]) ho5 hg5)); (obtain ⟨b1, b2⟩ := HT5.out.cells); (dsimp only at b1 b2); (have x1 := XX.out w5 HT5.out.bel); clear ho5 hg5))
              go_quiet (fail)
              have HT6 := hide (HT5.out.keep (drew_below w5 nq))
              generalize w5.drewN nq = W6 at *
              go_wp2_with (at_builtin; go_must (refine wpList_append_reads rfl (.tmp 51) (.tmp 54) 22 rfl (w.heap.size + 1) 32 i0 _ 2 32 Tryz.underlying22 hi hz0 hz1 hz2 rfl (by decide) _ ((([] : List Pr) ++ m.take i ++ [(k, v)]).length) (pairCells (([] : List Pr) ++ m.take i ++ [(k, v)])) rfl HT6.out.own _ (m.length - (i + 1)) (pairCells (m.drop (i + 1))) rfl (HRc.out _ HT6.out.bel) (by rw [pairCells_len, List.length_drop] <;> first | rfl | omega) (pairCells_one _) (by simp only [List.length_append, HTl.out, List.length_nil, List.length_cons]; unfold maxLen; omega) (by simp only [List.length_append, HTl.out, List.length_nil, List.length_cons]; omega) (Nat.succ_le_of_lt (Array.getElem?_eq_some_iff.1 HT6.out.box).1) ?_); intro v7 w7 ho7 hg7; (have HT7 := hide (HT6.out.app (ys := m.drop (i + 1)) (by rw [List.length_drop]; exact ho7) hg7)); clear ho7 hg7)
              go_ret
              have HF := HT7.out.fin
              refine ⟨_, rfl, ?_, HT7.out.bel⟩
              rw [HE.out]
              simpa using HF
        · have hne := str_ne hqk
          have HEn : Hid (endL m k = i) := by show _ = _; unfold endL; rw [← HIe.out, if_neg (fun h => hqk h.2)]
          clear hqk
          generalize (m.getD i pr0).1 = q at *
          by_cases hv : v.size = 0
          · by_cases hcj : cap = i
            · omega
            · -- ne
              have HE : Hid (LL = m.take i ++ [] ++ m.drop (i)) := by
                show _ = _
                rw [HLa.out, ← HIe.out, HEn.out, if_pos hv]
              have HRc : Hid (∀ W, Below w.heap.size w W → Reads W (.slice (some ⟨g, o + (i) * 2, none⟩) (m.length - (i)) (cap - (i))) (m.length - (i)) (pairCells (m.drop (i)))) := fun W hW => by
                have h := prs_reads (HM.out.keep hW) (i) (m.length - (i)) (cap - (i)) (by omega)
                rwa [List.take_of_length_le (by rw [List.length_drop]; exact Nat.le_refl _)] at h
              have hcI : (i : Int) < (cap : Int) := by omega
              have hcN : i < cap := by omega
              obtain rfl : v = e0 := e0_of hv
              clear hst
              go_wp2
              go_quiet (fail)
              have HT1 := hide (HT.out.keep (drew_below wr nq))
              generalize wr.drewN nq = W1 at *
              obtain ⟨b1, b2⟩ := HT1.out.cells
              have x1 := XX.out W1 HT1.out.bel
              dsimp only at b1 b2
              go_wp2_with (first | (at_builtin; (refine wpList_append_reads rfl (.tmp 23) (.tmp 26) 22 rfl (w.heap.size + 1) 32 i0 _ 2 32 Tryz.underlying22 hi hz0 hz1 hz2 rfl (by decide) _ 0 (pairCells []) rfl HT1.out.own _ i (pairCells (m.take i)) rfl (HRa.out _ HT1.out.bel) (by rw [pairCells_len]; simp; omega) (pairCells_one _) (by unfold maxLen; omega) (by omega) (Nat.succ_le_of_lt (Array.getElem?_eq_some_iff.1 HT1.out.box).1) ?_); intro v3 w3 ho3 hg3; (have HT3 := hide (HT1.out.app (ys := m.take i) (by rw [HTl.out]; exact ho3) hg3)); (obtain ⟨b1, b2⟩ := HT3.out.cells); (dsimp only at b1 b2); (have x1 := XX.out w3 HT3.out.bel); clear ho3 hg3))
              go_quiet (fail)
              have HT6 := hide (HT3.out.keep (drew_below w3 nq))
              generalize w3.drewN nq = W6 at *
              go_wp2_with (at_builtin; go_must (refine wpList_append_reads rfl (.tmp 51) (.tmp 54) 22 rfl (w.heap.size + 1) 32 i0 _ 2 32 Tryz.underlying22 hi hz0 hz1 hz2 rfl (by decide) _ ((([] : List Pr) ++ m.take i).length) (pairCells (([] : List Pr) ++ m.take i)) rfl HT6.out.own _ (m.length - (i)) (pairCells (m.drop (i))) rfl (HRc.out _ HT6.out.bel) (by rw [pairCells_len, List.length_drop] <;> first | rfl | omega) (pairCells_one _) (by simp only [List.length_append, HTl.out, List.length_nil]; unfold maxLen; omega) (by simp only [List.length_append, HTl.out, List.length_nil]; omega) (Nat.succ_le_of_lt (Array.getElem?_eq_some_iff.1 HT6.out.box).1) ?_); intro v7 w7 ho7 hg7; (have HT7 := hide (HT6.out.app (ys := m.drop (i)) (by rw [List.length_drop]; exact ho7) hg7)); clear ho7 hg7)
              go_ret
              have HF := HT7.out.fin
              refine ⟨_, rfl, ?_, HT7.out.bel⟩
              rw [HE.out]
              simpa using HF
          · by_cases hcj : cap = i
            · omega
            · -- ne
              have HE : Hid (LL = m.take i ++ [(k, v)] ++ m.drop (i)) := by
                show _ = _
                rw [HLa.out, ← HIe.out, HEn.out, if_neg hv]
              have HRc : Hid (∀ W, Below w.heap.size w W → Reads W (.slice (some ⟨g, o + (i) * 2, none⟩) (m.length - (i)) (cap - (i))) (m.length - (i)) (pairCells (m.drop (i)))) := fun W hW => by
                have h := prs_reads (HM.out.keep hW) (i) (m.length - (i)) (cap - (i)) (by omega)
                rwa [List.take_of_length_le (by rw [List.length_drop]; exact Nat.le_refl _)] at h
              have hv3 := isEmptyV hv
              have hcI : (i : Int) < (cap : Int) := by omega
              have hcN : i < cap := by omega
              clear hst
              go_wp2
              go_quiet (fail)
              have HT1 := hide (HT.out.keep (drew_below wr nq))
              generalize wr.drewN nq = W1 at *
              obtain ⟨b1, b2⟩ := HT1.out.cells
              have x1 := XX.out W1 HT1.out.bel
              dsimp only at b1 b2
              go_wp2_with (first | (at_builtin; (refine wpList_append_reads rfl (.tmp 23) (.tmp 26) 22 rfl (w.heap.size + 1) 32 i0 _ 2 32 Tryz.underlying22 hi hz0 hz1 hz2 rfl (by decide) _ 0 (pairCells []) rfl HT1.out.own _ i (pairCells (m.take i)) rfl (HRa.out _ HT1.out.bel) (by rw [pairCells_len]; simp; omega) (pairCells_one _) (by unfold maxLen; omega) (by omega) (Nat.succ_le_of_lt (Array.getElem?_eq_some_iff.1 HT1.out.box).1) ?_); intro v3 w3 ho3 hg3; (have HT3 := hide (HT1.out.app (ys := m.take i) (by rw [HTl.out]; exact ho3) hg3)); (obtain ⟨b1, b2⟩ := HT3.out.cells); (dsimp only at b1 b2); (have x1 := XX.out w3 HT3.out.bel); clear ho3 hg3) | (at_builtin; (refine wpList_append_reads rfl (.tmp 31) (.tmp 33) 22 rfl (w.heap.size + 1) 32 i0 _ 2 32 Tryz.underlying22 hi hz0 hz1 hz2 rfl (by decide) _ ((([] : List Pr) ++ m.take i).length) (pairCells (([] : List Pr) ++ m.take i)) rfl (HT3.out.keep (below_alloc _ _)).own _ 1 (pairCells [(k, v)]) rfl (.inr ⟨⟨w3.heap.size, 0, none⟩, 1, rfl, World.news_of_block (heap_alloc_new w3 (.cells #[.string k, .string v] 32))⟩) rfl (pairCells_one _) (by rw [HTl2.out]; unfold maxLen; omega) (by rw [HTl2.out]; omega) (Nat.succ_le_of_lt (Array.getElem?_eq_some_iff.1 (HT3.out.keep (below_alloc _ (.cells #[.string k, .string v] 32))).box).1) ?_); intro v5 w5 ho5 hg5; (have HT5 := hide ((HT3.out.keep (below_alloc _ _)).app (ys := [(k, v)]) ho5 hg5)); (obtain ⟨b1, b2⟩ := HT5.out.cells); (dsimp only at b1 b2); (have x1 := XX.out w5 HT5.out.bel); clear ho5 hg5))
              go_quiet (fail)
              have HT6 := hide (HT5.out.keep (drew_below w5 nq))
              generalize w5.drewN nq = W6 at *
              go_wp2_with (at_builtin; go_must (refine wpList_append_reads rfl (.tmp 51) (.tmp 54) 22 rfl (w.heap.size + 1) 32 i0 _ 2 32 Tryz.underlying22 hi hz0 hz1 hz2 rfl (by decide) _ ((([] : List Pr) ++ m.take i ++ [(k, v)]).length) (pairCells (([] : List Pr) ++ m.take i ++ [(k, v)])) rfl HT6.out.own _ (m.length - (i)) (pairCells (m.drop (i))) rfl (HRc.out _ HT6.out.bel) (by rw [pairCells_len, List.length_drop] <;> first | rfl | omega) (pairCells_one _) (by simp only [List.length_append, HTl.out, List.length_nil, List.length_cons]; unfold maxLen; omega) (by simp only [List.length_append, HTl.out, List.length_nil, List.length_cons]; omega) (Nat.succ_le_of_lt (Array.getElem?_eq_some_iff.1 HT6.out.box).1) ?_); intro v7 w7 ho7 hg7; (have HT7 := hide (HT6.out.app (ys := m.drop (i)) (by rw [List.length_drop]; exact ho7) hg7)); clear ho7 hg7)
              go_ret
              have HF := HT7.out.fin
              refine ⟨_, rfl, ?_, HT7.out.bel⟩
              rw [HE.out]
              simpa using HF
      · have j1 : ¬ (i : Int) < (m.length : Int) := by omega
        have hie2 : m.length ≤ i := by omega
        have HEn : Hid (endL m k = i) := by show _ = _; unfold endL; rw [← HIe.out, if_neg (fun h => hil h.1)]
        by_cases hv : v.size = 0
        · by_cases hcj : cap = i
          · have hcs := hcj.symm
            subst hcs
            have HE : Hid (LL = m.take i ++ [] ++ m.drop (i)) := by
              show _ = _
              rw [HLa.out, ← HIe.out, HEn.out, if_pos hv]
            have HRc : Hid (∀ W, Below w.heap.size w W → Reads W (.slice (some ⟨g, o, none⟩) (0) (0)) (0) (pairCells (m.drop (i)))) := fun W hW => by
              have e2 : m.drop (i) = [] := List.drop_eq_nil_of_le (by omega)
              rw [e2]
              exact .inr ⟨_, _, rfl, fun j u h => by simp [pairCells] at h⟩
            obtain rfl : v = e0 := e0_of hv
            clear hst
            go_wp2
            go_quiet (fail)
            have HT1 := hide (HT.out.keep (drew_below wr nq))
            generalize wr.drewN nq = W1 at *
            obtain ⟨b1, b2⟩ := HT1.out.cells
            dsimp only at b1 b2
            go_wp2_with (first | (at_builtin; (refine wpList_append_reads rfl (.tmp 23) (.tmp 26) 22 rfl (w.heap.size + 1) 32 i0 _ 2 32 Tryz.underlying22 hi hz0 hz1 hz2 rfl (by decide) _ 0 (pairCells []) rfl HT1.out.own _ i (pairCells (m.take i)) rfl (HRa.out _ HT1.out.bel) (by rw [pairCells_len]; simp; omega) (pairCells_one _) (by unfold maxLen; omega) (by omega) (Nat.succ_le_of_lt (Array.getElem?_eq_some_iff.1 HT1.out.box).1) ?_); intro v3 w3 ho3 hg3; (have HT3 := hide (HT1.out.app (ys := m.take i) (by rw [HTl.out]; exact ho3) hg3)); (obtain ⟨b1, b2⟩ := HT3.out.cells); (dsimp only at b1 b2); clear ho3 hg3))
            go_quiet (fail)
            have HT6 := hide (HT3.out.keep (drew_below w3 nq))
            generalize w3.drewN nq = W6 at *
            go_wp2_with (at_builtin; go_must (refine wpList_append_reads rfl (.tmp 51) (.tmp 54) 22 rfl (w.heap.size + 1) 32 i0 _ 2 32 Tryz.underlying22 hi hz0 hz1 hz2 rfl (by decide) _ ((([] : List Pr) ++ m.take i).length) (pairCells (([] : List Pr) ++ m.take i)) rfl HT6.out.own _ (0) (pairCells (m.drop (i))) rfl (HRc.out _ HT6.out.bel) (by rw [pairCells_len, List.length_drop] <;> first | rfl | omega) (pairCells_one _) (by simp only [List.length_append, HTl.out, List.length_nil]; unfold maxLen; omega) (by simp only [List.length_append, HTl.out, List.length_nil]; omega) (Nat.succ_le_of_lt (Array.getElem?_eq_some_iff.1 HT6.out.box).1) ?_); intro v7 w7 ho7 hg7; (have HT7 := hide (HT6.out.app (ys := m.drop (i)) (by rw [List.length_drop, show m.length - (i) = 0 from by omega]; exact ho7) hg7)); clear ho7 hg7)
            go_ret
            have HF := HT7.out.fin
            refine ⟨_, rfl, ?_, HT7.out.bel⟩
            rw [HE.out]
            simpa using HF
          · -- out
            have HE : Hid (LL = m.take i ++ [] ++ m.drop (i)) := by
              show _ = _
              rw [HLa.out, ← HIe.out, HEn.out, if_pos hv]
            have HRc : Hid (∀ W, Below w.heap.size w W → Reads W (.slice (some ⟨g, o + (i) * 2, none⟩) (0) (cap - (i))) (0) (pairCells (m.drop (i)))) := fun W hW => by
              have e2 : m.drop (i) = [] := List.drop_eq_nil_of_le (by omega)
              rw [e2]
              exact .inr ⟨_, _, rfl, fun j u h => by simp [pairCells] at h⟩
            have hcI : (i : Int) < (cap : Int) := by omega
            have hcN : i < cap := by omega
            obtain rfl : v = e0 := e0_of hv
            clear hst
            go_wp2
            go_quiet (fail)
            have HT1 := hide (HT.out.keep (drew_below wr nq))
            generalize wr.drewN nq = W1 at *
            obtain ⟨b1, b2⟩ := HT1.out.cells
            dsimp only at b1 b2
            go_wp2_with (first | (at_builtin; (refine wpList_append_reads rfl (.tmp 23) (.tmp 26) 22 rfl (w.heap.size + 1) 32 i0 _ 2 32 Tryz.underlying22 hi hz0 hz1 hz2 rfl (by decide) _ 0 (pairCells []) rfl HT1.out.own _ i (pairCells (m.take i)) rfl (HRa.out _ HT1.out.bel) (by rw [pairCells_len]; simp; omega) (pairCells_one _) (by unfold maxLen; omega) (by omega) (Nat.succ_le_of_lt (Array.getElem?_eq_some_iff.1 HT1.out.box).1) ?_); intro v3 w3 ho3 hg3; (have HT3 := hide (HT1.out.app (ys := m.take i) (by rw [HTl.out]; exact ho3) hg3)); (obtain ⟨b1, b2⟩ := HT3.out.cells); (dsimp only at b1 b2); clear ho3 hg3))
            go_quiet (fail)
            have HT6 := hide (HT3.out.keep (drew_below w3 nq))
            generalize w3.drewN nq = W6 at *
            go_wp2_with (at_builtin; go_must (refine wpList_append_reads rfl (.tmp 51) (.tmp 54) 22 rfl (w.heap.size + 1) 32 i0 _ 2 32 Tryz.underlying22 hi hz0 hz1 hz2 rfl (by decide) _ ((([] : List Pr) ++ m.take i).length) (pairCells (([] : List Pr) ++ m.take i)) rfl HT6.out.own _ (0) (pairCells (m.drop (i))) rfl (HRc.out _ HT6.out.bel) (by rw [pairCells_len, List.length_drop] <;> first | rfl | omega) (pairCells_one _) (by simp only [List.length_append, HTl.out, List.length_nil]; unfold maxLen; omega) (by simp only [List.length_append, HTl.out, List.length_nil]; omega) (Nat.succ_le_of_lt (Array.getElem?_eq_some_iff.1 HT6.out.box).1) ?_); intro v7 w7 ho7 hg7; (have HT7 := hide (HT6.out.app (ys := m.drop (i)) (by rw [List.length_drop, show m.length - (i) = 0 from by omega]; exact ho7) hg7)); clear ho7 hg7)
            go_ret
            have HF := HT7.out.fin
            refine ⟨_, rfl, ?_, HT7.out.bel⟩
            rw [HE.out]
            simpa using HF
        · by_cases hcj : cap = i
          · have hcs := hcj.symm
            subst hcs
            have HE : Hid (LL = m.take i ++ [(k, v)] ++ m.drop (i)) := by
              show _ = _
              rw [HLa.out, ← HIe.out, HEn.out, if_neg hv]
            have HRc : Hid (∀ W, Below w.heap.size w W → Reads W (.slice (some ⟨g, o, none⟩) (0) (0)) (0) (pairCells (m.drop (i)))) := fun W hW => by
              have e2 : m.drop (i) = [] := List.drop_eq_nil_of_le (by omega)
              rw [e2]
              exact .inr ⟨_, _, rfl, fun j u h => by simp [pairCells] at h⟩
            have hv3 := isEmptyV hv
            clear hst
            go_wp2
            go_quiet (fail)
            have HT1 := hide (HT.out.keep (drew_below wr nq))
            generalize wr.drewN nq = W1 at *
            obtain ⟨b1, b2⟩ := HT1.out.cells
            dsimp only at b1 b2
            go_wp2_with (first | (at_builtin; (refine wpList_append_reads rfl (.tmp 23) (.tmp 26) 22 rfl (w.heap.size + 1) 32 i0 _ 2 32 Tryz.underlying22 hi hz0 hz1 hz2 rfl (by decide) _ 0 (pairCells []) rfl HT1.out.own _ i (pairCells (m.take i)) rfl (HRa.out _ HT1.out.bel) (by rw [pairCells_len]; simp; omega) (pairCells_one _) (by unfold maxLen; omega) (by omega) (Nat.succ_le_of_lt (Array.getElem?_eq_some_iff.1 HT1.out.box).1) ?_); intro v3 w3 ho3 hg3; (have HT3 := hide (HT1.out.app (ys := m.take i) (by rw [HTl.out]; exact ho3) hg3)); (obtain ⟨b1, b2⟩ := HT3.out.cells); (dsimp only at b1 b2); clear ho3 hg3) | (at_builtin; (refine wpList_append_reads rfl (.tmp 31) (.tmp 33) 22 rfl (w.heap.size + 1) 32 i0 _ 2 32 Tryz.underlying22 hi hz0 hz1 hz2 rfl (by decide) _ ((([] : List Pr) ++ m.take i).length) (pairCells (([] : List Pr) ++ m.take i)) rfl (HT3.out.keep (below_alloc _ _)).own _ 1 (pairCells [(k, v)]) rfl (.inr ⟨⟨w3.heap.size, 0, none⟩, 1, rfl, World.news_of_block (heap_alloc_new w3 (.cells #[.string k, .string v] 32))⟩) rfl (pairCells_one _) (by rw [HTl2.out]; unfold maxLen; omega) (by rw [HTl2.out]; omega) (Nat.succ_le_of_lt (Array.getElem?_eq_some_iff.1 (HT3.out.keep (below_alloc _ (.cells #[.string k, .string v] 32))).box).1) ?_); intro v5 w5 ho5 hg5; (have HT5 := hide ((HT3.out.keep (below_alloc _ _)).app (ys := [(k, v)]) ho5 hg5)); (obtain ⟨b1, b2⟩ := HT5.out.cells); (dsimp only at b1 b2); clear ho5 hg5))
            go_quiet (fail)
            have HT6 := hide (HT5.out.keep (drew_below w5 nq))
            generalize w5.drewN nq = W6 at *
            go_wp2_with (at_builtin; go_must (refine wpList_append_reads rfl (.tmp 51) (.tmp 54) 22 rfl (w.heap.size + 1) 32 i0 _ 2 32 Tryz.underlying22 hi hz0 hz1 hz2 rfl (by decide) _ ((([] : List Pr) ++ m.take i ++ [(k, v)]).length) (pairCells (([] : List Pr) ++ m.take i ++ [(k, v)])) rfl HT6.out.own _ (0) (pairCells (m.drop (i))) rfl (HRc.out _ HT6.out.bel) (by rw [pairCells_len, List.length_drop] <;> first | rfl | omega) (pairCells_one _) (by simp only [List.length_append, HTl.out, List.length_nil, List.length_cons]; unfold maxLen; omega) (by simp only [List.length_append, HTl.out, List.length_nil, List.length_cons]; omega) (Nat.succ_le_of_lt (Array.getElem?_eq_some_iff.1 HT6.out.box).1) ?_); intro v7 w7 ho7 hg7; (have HT7 := hide (HT6.out.app (ys := m.drop (i)) (by rw [List.length_drop, show m.length - (i) = 0 from by omega]; exact ho7) hg7)); clear ho7 hg7)
            go_ret
            have HF := HT7.out.fin
            refine ⟨_, rfl, ?_, HT7.out.bel⟩
            rw [HE.out]
            simpa using HF
          · -- out
            have HE : Hid (LL = m.take i ++ [(k, v)] ++ m.drop (i)) := by
              show _ = _
              rw [HLa.out, ← HIe.out, HEn.out, if_neg hv]
            have HRc : Hid (∀ W, Below w.heap.size w W → Reads W (.slice (some ⟨g, o + (i) * 2, none⟩) (0) (cap - (i))) (0) (pairCells (m.drop (i)))) := fun W hW => by
              have e2 : m.drop (i) = [] := List.drop_eq_nil_of_le (by omega)
              rw [e2]
              exact .inr ⟨_, _, rfl, fun j u h => by simp [pairCells] at h⟩
            have hv3 := isEmptyV hv
            have hcI : (i : Int) < (cap : Int) := by omega
            have hcN : i < cap := by omega
            clear hst
            go_wp2
            go_quiet (fail)
            have HT1 := hide (HT.out.keep (drew_below wr nq))
            generalize wr.drewN nq = W1 at *
            obtain ⟨b1, b2⟩ := HT1.out.cells
            dsimp only at b1 b2
            go_wp2_with (first | (at_builtin; (refine wpList_append_reads rfl (.tmp 23) (.tmp 26) 22 rfl (w.heap.size + 1) 32 i0 _ 2 32 Tryz.underlying22 hi hz0 hz1 hz2 rfl (by decide) _ 0 (pairCells []) rfl HT1.out.own _ i (pairCells (m.take i)) rfl (HRa.out _ HT1.out.bel) (by rw [pairCells_len]; simp; omega) (pairCells_one _) (by unfold maxLen; omega) (by omega) (Nat.succ_le_of_lt (Array.getElem?_eq_some_iff.1 HT1.out.box).1) ?_); intro v3 w3 ho3 hg3; (have HT3 := hide (HT1.out.app (ys := m.take i) (by rw [HTl.out]; exact ho3) hg3)); (obtain ⟨b1, b2⟩ := HT3.out.cells); (dsimp only at b1 b2); clear ho3 hg3) | (at_builtin; (refine wpList_append_reads rfl (.tmp 31) (.tmp 33) 22 rfl (w.heap.size + 1) 32 i0 _ 2 32 Tryz.underlying22 hi hz0 hz1 hz2 rfl (by decide) _ ((([] : List Pr) ++ m.take i).length) (pairCells (([] : List Pr) ++ m.take i)) rfl (HT3.out.keep (below_alloc _ _)).own _ 1 (pairCells [(k, v)]) rfl (.inr ⟨⟨w3.heap.size, 0, none⟩, 1, rfl, World.news_of_block (heap_alloc_new w3 (.cells #[.string k, .string v] 32))⟩) rfl (pairCells_one _) (by rw [HTl2.out]; unfold maxLen; omega) (by rw [HTl2.out]; omega) (Nat.succ_le_of_lt (Array.getElem?_eq_some_iff.1 (HT3.out.keep (below_alloc _ (.cells #[.string k, .string v] 32))).box).1) ?_); intro v5 w5 ho5 hg5; (have HT5 := hide ((HT3.out.keep (below_alloc _ _)).app (ys := [(k, v)]) ho5 hg5)); (obtain ⟨b1, b2⟩ := HT5.out.cells); (dsimp only at b1 b2); clear ho5 hg5))
            go_quiet (fail)
            have HT6 := hide (HT5.out.keep (drew_below w5 nq))
            generalize w5.drewN nq = W6 at *
            go_wp2_with (at_builtin; go_must (refine wpList_append_reads rfl (.tmp 51) (.tmp 54) 22 rfl (w.heap.size + 1) 32 i0 _ 2 32 Tryz.underlying22 hi hz0 hz1 hz2 rfl (by decide) _ ((([] : List Pr) ++ m.take i ++ [(k, v)]).length) (pairCells (([] : List Pr) ++ m.take i ++ [(k, v)])) rfl HT6.out.own _ (0) (pairCells (m.drop (i))) rfl (HRc.out _ HT6.out.bel) (by rw [pairCells_len, List.length_drop] <;> first | rfl | omega) (pairCells_one _) (by simp only [List.length_append, HTl.out, List.length_nil, List.length_cons]; unfold maxLen; omega) (by simp only [List.length_append, HTl.out, List.length_nil, List.length_cons]; omega) (Nat.succ_le_of_lt (Array.getElem?_eq_some_iff.1 HT6.out.box).1) ?_); intro v7 w7 ho7 hg7; (have HT7 := hide (HT6.out.app (ys := m.drop (i)) (by rw [List.length_drop, show m.length - (i) = 0 from by omega]; exact ho7) hg7)); clear ho7 hg7)
            go_ret
            have HF := HT7.out.fin
            refine ⟨_, rfl, ?_, HT7.out.bel⟩
            rw [HE.out]
            simpa using HF
set_option maxHeartbeats 4000000 in
set_option maxRecDepth 20000 in
theorem laid_none (p : Pr) (w : World) :
    Calls Tryz.prog 9 #[.slice none 0 0, .agg #[.string p.1, .string p.2]] w fun e w' => ∃ v, e = .returned v ∧ w'.ownsRow w.heap.size 32 2 v (laidL [] p).length (pairCells (laidL [] p)) ∧ Below w.heap.size w w' := by
  obtain ⟨i0, hi, hz0, hz1, hz2⟩ := info_parts infoPair
  have HS := hide (LaSt.start w p)
  obtain ⟨k, v⟩ := p
  dsimp only at *
  have HR : Hid (∀ W : World, Reads W (.slice none 0 0) 0 (pairCells [])) := fun W => .inl ⟨rfl, rfl, rfl⟩
  go_enter Tryz.func9, Tryz.ntmps9
  go_wp2_with fail
  go_loopw [6] (fun iv wr => iv = .int .i64 0 ∧ LaSt w (k, v) wr (.slice none 0 0) []) (fun _ _ => 0)
  case atStart => exact ⟨rfl, HS.out⟩
  case round =>
    obtain ⟨rfl, hst⟩ := hrel
    have HT := hide hst
    obtain ⟨b1, b2⟩ := hst.cells
    dsimp only at b1 b2
    clear hst
    by_cases hv : v.size = 0
    · have HE : Hid (laidL [] (k, v) = []) := by show _ = _; unfold laidL; rw [if_pos hv]; rfl
      obtain rfl : v = e0 := e0_of hv
      go_wp2
      go_quiet (fail)
      have HT1 := hide (HT.out.keep (drew_below wr nq))
      generalize wr.drewN nq = W1 at *
      obtain ⟨b1, b2⟩ := HT1.out.cells
      dsimp only at b1 b2
      go_wp2_with (at_builtin; (refine wpList_append_reads rfl (.tmp 23) (.tmp 26) 22 rfl (w.heap.size + 1) 32 i0 _ 2 32 Tryz.underlying22 hi hz0 hz1 hz2 rfl (by decide) _ 0 (pairCells []) rfl HT1.out.own _ 0 (pairCells []) rfl (HR.out _) rfl (pairCells_one _) (by unfold maxLen; omega) (by omega) (Nat.succ_le_of_lt (Array.getElem?_eq_some_iff.1 HT1.out.box).1) ?_); intro v3 w3 ho3 hg3; (have HT3 := hide (HT1.out.app (ys := []) ho3 hg3)); (obtain ⟨b1, b2⟩ := HT3.out.cells); (dsimp only at b1 b2); clear ho3 hg3)
      go_quiet (fail)
      have HT6 := hide (HT3.out.keep (drew_below w3 nq))
      generalize w3.drewN nq = W6 at *
      go_wp2_with (at_builtin; go_must (refine wpList_append_reads rfl (.tmp 51) (.tmp 54) 22 rfl (w.heap.size + 1) 32 i0 _ 2 32 Tryz.underlying22 hi hz0 hz1 hz2 rfl (by decide) _ 0 (pairCells []) rfl HT6.out.own _ 0 (pairCells []) rfl (HR.out _) rfl (pairCells_one _) (by unfold maxLen; omega) (by omega) (Nat.succ_le_of_lt (Array.getElem?_eq_some_iff.1 HT6.out.box).1) ?_); intro v7 w7 ho7 hg7; (have HT7 := hide (HT6.out.app (ys := []) ho7 hg7)); clear ho7 hg7)
      go_ret
      exact ⟨_, rfl, by rw [HE.out]; exact HT7.out.fin, HT7.out.bel⟩
    · have HE : Hid (laidL [] (k, v) = [(k, v)]) := by show _ = _; unfold laidL; rw [if_neg hv]; rfl
      have hv3 := isEmptyV hv
      go_wp2
      go_quiet (fail)
      have HT1 := hide (HT.out.keep (drew_below wr nq))
      generalize wr.drewN nq = W1 at *
      obtain ⟨b1, b2⟩ := HT1.out.cells
      dsimp only at b1 b2
      go_wp2_with (first | (at_builtin; (refine wpList_append_reads rfl (.tmp 23) (.tmp 26) 22 rfl (w.heap.size + 1) 32 i0 _ 2 32 Tryz.underlying22 hi hz0 hz1 hz2 rfl (by decide) _ 0 (pairCells []) rfl HT1.out.own _ 0 (pairCells []) rfl (HR.out _) rfl (pairCells_one _) (by unfold maxLen; omega) (by omega) (Nat.succ_le_of_lt (Array.getElem?_eq_some_iff.1 HT1.out.box).1) ?_); intro v3 w3 ho3 hg3; (have HT3 := hide (HT1.out.app (ys := []) ho3 hg3)); (obtain ⟨b1, b2⟩ := HT3.out.cells); (dsimp only at b1 b2); clear ho3 hg3) | (at_builtin; (refine wpList_append_reads rfl (.tmp 31) (.tmp 33) 22 rfl (w.heap.size + 1) 32 i0 _ 2 32 Tryz.underlying22 hi hz0 hz1 hz2 rfl (by decide) _ 0 (pairCells []) rfl (HT3.out.keep (below_alloc _ _)).own _ 1 (pairCells [(k, v)]) rfl (.inr ⟨⟨w3.heap.size, 0, none⟩, 1, rfl, World.news_of_block (heap_alloc_new w3 (.cells #[.string k, .string v] 32))⟩) rfl (pairCells_one _) (by unfold maxLen; omega) (by omega) (Nat.succ_le_of_lt (Array.getElem?_eq_some_iff.1 (HT3.out.keep (below_alloc _ (.cells #[.string k, .string v] 32))).box).1) ?_); intro v5 w5 ho5 hg5; (have HT5 := hide ((HT3.out.keep (below_alloc _ _)).app (ys := [(k, v)]) ho5 hg5)); (obtain ⟨b1, b2⟩ := HT5.out.cells); (dsimp only at b1 b2); clear ho5 hg5))
      go_quiet (fail)
      have HT6 := hide (HT5.out.keep (drew_below w5 nq))
      generalize w5.drewN nq = W6 at *
      go_wp2_with (at_builtin; go_must (refine wpList_append_reads rfl (.tmp 51) (.tmp 54) 22 rfl (w.heap.size + 1) 32 i0 _ 2 32 Tryz.underlying22 hi hz0 hz1 hz2 rfl (by decide) _ 1 (pairCells [(k, v)]) rfl HT6.out.own _ 0 (pairCells []) rfl (HR.out _) rfl (pairCells_one _) (by unfold maxLen; omega) (by omega) (Nat.succ_le_of_lt (Array.getElem?_eq_some_iff.1 HT6.out.box).1) ?_); intro v7 w7 ho7 hg7; (have HT7 := hide (HT6.out.app (ys := []) ho7 hg7)); clear ho7 hg7)
      go_ret
      exact ⟨_, rfl, by rw [HE.out]; exact HT7.out.fin, HT7.out.bel⟩
theorem laid_any (ao : Option Addr) (cap : Nat) (m : List Pr) (p : Pr) (w : World) (hm : Prs w ao m) (hs : ∀ a, ao = some a → a.spot = none) (h0 : ao = none → cap = 0) (hc : m.length ≤ cap) (hl : m.length ≤ 1000000) :
    Calls Tryz.prog 9 #[.slice ao m.length cap, .agg #[.string p.1, .string p.2]] w fun e w' => ∃ v, e = .returned v ∧ w'.ownsRow w.heap.size 32 2 v (laidL m p).length (pairCells (laidL m p)) ∧ Below w.heap.size w w' := by
  cases ao with
  | none =>
    obtain rfl := h0 rfl
    have hm0 : m = [] := List.length_eq_zero_iff.1 (by omega)
    subst hm0
    exact laid_none p w
  | some a =>
    obtain ⟨g, o, sp⟩ := a
    obtain rfl : sp = none := hs _ rfl
    exact laid_some g o cap m p w hm hc hl
end Go.Proofs.YtgepjjebjhidiaaGreatDoor
namespace Go.Proofs.YtgepjjebjhidiaaGreatDoor
open Go.RowKit
attribute [local go_sem ↓] Go.wp_at_zero Go.wp_at_succ

/-- not below a text -/
def okK (s : ByteArray) (p : Pr) : Bool := !Op.bytesLess p.1.toList s.toList
/-- what Each is to tell of a map -/
def expectL (m : List Pr) (s : ByteArray) (most : Int) : List Pr := (m.filter (okK s)).take (min most 100).toNat
theorem filter_snoc {m : List Pr} {i : Nat} (h : i < m.length) (f : Pr → Bool) : (m.take (i + 1)).filter f = (m.take i).filter f ++ (if f (m.getD i pr0) = true then [m.getD i pr0] else []) := by
  rw [List.take_succ_eq_append_getElem h, List.filter_append]
  have e : m.getD i pr0 = m[i] := by simp [List.getD_eq_getElem?_getD, h]
  rw [e]
  congr 1
  simp [List.filter_cons]
theorem filter_pre (m : List Pr) (i : Nat) (f : Pr → Bool) : (m.take i).filter f <+: m.filter f := by
  conv => rhs; rw [← List.take_append_drop i m, List.filter_append]
  exact List.prefix_append _ _
/-- the next one that is to be told -/
theorem expect_at {m : List Pr} {s : ByteArray} {most : Int} {i : Nat} (h : i < m.length) (hf : okK s (m.getD i pr0) = true) (hk : ((m.take i).filter (okK s)).length < (min most 100).toNat) :
    ((m.take i).filter (okK s)).length < (expectL m s most).length ∧ (expectL m s most).getD ((m.take i).filter (okK s)).length pr0 = m.getD i pr0 := by
  obtain ⟨r, hr⟩ := filter_pre m (i + 1) (okK s)
  rw [filter_snoc h, if_pos hf] at hr
  have e : expectL m s most = ((m.take i).filter (okK s) ++ [m.getD i pr0] ++ r).take (min most 100).toNat := by rw [expectL, ← hr]
  rw [e]
  constructor
  · simp; omega
  · rw [List.getD_eq_getElem?_getD, List.getElem?_take, if_pos hk, List.append_assoc, List.getElem?_append_right (Nat.le_refl _)]
    simp
theorem expect_len (m : List Pr) (s : ByteArray) (most : Int) : (expectL m s most).length = min (min most 100).toNat ((m.take m.length).filter (okK s)).length := by
  rw [List.take_length]
  simp [expectL]
theorem own_slice {w : World} {base n : Nat} {v : Value} {xs : List Value} {e k : Nat} (h : w.ownsRow base e k v n xs) : ∃ ao cap, v = .slice ao n cap ∧ (∀ a, ao = some a → a.spot = none) ∧ (ao = none → cap = 0) ∧ n ≤ cap := by
  rcases h.2 with ⟨rfl, rfl⟩ | ⟨g, c, cur, rfl, _, _, h4, _⟩
  · exact ⟨none, 0, rfl, (fun a e => by cases e), fun _ => rfl, Nat.le_refl _⟩
  · exact ⟨_, c, rfl, (fun a e => by injection e with e; rw [← e]), (fun e => by cases e), h4⟩
set_option maxHeartbeats 4000000 in
set_option maxRecDepth 20000 in
theorem tells_any (Hk : Nd → ByteArray → Prop) (ok : Nat → Prop) (T M : Nat) (n : Nd) (ao : Option Addr) (cap : Nat) (m : List Pr) (s : ByteArray) (most : Int) (w : World) (hA : TreeAt Hk ok w T (.map (some M)) n) (hO : TOk n) (hkeys : KeysOk (n.flat [])) (hm : Prs w ao m) (hl : m.length ≤ 1000000) (hs : s.size ≤ 9223372036854775807) (hm1 : -9223372036854775808 ≤ most) (hm2 : most ≤ 9223372036854775807) (heq : eachL n s most = expectL m s most) :
    Calls Tryz.prog 13 #[ptr T, .slice ao m.length cap, .string s, .int .i64 most] w fun e w' => e = .returned (.bool true) ∧ Below w.heap.size w w' := by
  have HE := hide (cEach_any Hk ok T M n s most w hA hO hkeys hs hm1 hm2)
  have HM := hide hm
  have HQ := hide heq
  clear hA hO hkeys hm heq
  unfold ptr at *
  go_enter Tryz.func13, Tryz.ntmps13
  go_wp2_with fail
  refine HE.out.mono ?_
  rintro e w1 ⟨v, rfl, hown, hb1⟩
  rw [HQ.out] at hown
  obtain ⟨lo, lcap, rfl, _, _, _⟩ := own_slice hown
  have HLn := hide (expect_len m s most)
  have HAt := hide (fun i h hf hk => expect_at (m := m) (s := s) (most := most) (i := i) h hf hk)
  have HL := hide (Prs.own hown)
  have HB1 := hide hb1
  have HM1 := hide (HM.out.keep hb1)
  have hlb : (expectL m s most).length ≤ 1000000 := by
    have h1 : (expectL m s most).length ≤ m.length := by
      have h1 := List.length_filter_le (okK s) m
      unfold expectL
      rw [List.length_take]
      omega
    omega
  generalize expectL m s most = l at *
  obtain ⟨K, hK⟩ : ∃ K : Nat, K = (min most 100).toNat := ⟨_, rfl⟩
  have HK : Hid (K = (min most 100).toNat) := hK
  rw [← hK] at HLn
  clear hown hb1 HQ HE hK
  go_wp2_with fail
  go_loopw [11, 12] (fun cv iv wr => ∃ i c : Nat, i ≤ m.length ∧ iv = .int .i64 (i : Int) ∧ cv = .int .i64 (c : Int) ∧ c = min K ((m.take i).filter (okK s)).length ∧ Below w1.heap.size w1 wr) (fun _ iv _ => m.length - (intOf iv).toNat)
  case atStart => exact ⟨0, 0, by omega, rfl, rfl, by simp, Below.refl _ _⟩
  case round =>
    obtain ⟨i, c, hi, rfl, rfl, hc, hbw⟩ := hrel
    have HBW := hide hbw
    have HC := hide hc
    have j0 : (0 : Int) ≤ (i : Int) := by omega
    have c0 : (0 : Int) ≤ (c : Int) := by omega
    clear hbw
    by_cases hil : i < m.length
    · have j1 : (i : Int) < (m.length : Int) := by omega
      have hsn := filter_snoc hil (okK s)
      obtain ⟨g1, o1, rfl, x1, x2⟩ := HM1.out.keep HBW.out i hil
      by_cases hlow : Op.bytesLess (m.getD i pr0).1.toList s.toList = true
      · have HN : Hid (c = min K ((m.take (i + 1)).filter (okK s)).length) := by
          show _ = _
          rw [hsn, if_neg (by unfold okK; rw [hlow]; decide), List.append_nil]; exact hc
        clear hsn hc
        generalize m.getD i pr0 = t at *
        go_wp2
        go_roundw
        case rel => exact ⟨i + 1, c, by omega, by go_num, rfl, HN.out, HBW.out⟩
        case measure => simp [intOf]; omega
      · have hlow2 : Op.bytesLess (m.getD i pr0).1.toList s.toList = false := by simpa using hlow
        have hok : okK s (m.getD i pr0) = true := by unfold okK; rw [hlow2]; rfl
        rw [if_pos hok] at hsn
        have hsl : ((m.take (i + 1)).filter (okK s)).length = ((m.take i).filter (okK s)).length + 1 := by rw [hsn]; simp
        by_cases hfull : K ≤ ((m.take i).filter (okK s)).length
        · have HN : Hid (c = min K ((m.take (i + 1)).filter (okK s)).length) := by show _ = _; rw [hsl]; omega
          have hcK : c = K := by omega
          clear hsn hc hsl hok hlow
          generalize m.getD i pr0 = t at *
          by_cases hmo : most ≤ (c : Int)
          · clear hcK
            go_wp2
            go_roundw
            case rel => exact ⟨i + 1, c, by omega, by go_num, rfl, HN.out, HBW.out⟩
            case measure => simp [intOf]; omega
          · have h100 : (100 : Int) ≤ (c : Int) := by have := HK.out; omega
            clear hcK
            go_wp2
            go_roundw
            case rel => exact ⟨i + 1, c, by omega, by go_num, rfl, HN.out, HBW.out⟩
            case measure => simp [intOf]; omega
        · have hcl : c = ((m.take i).filter (okK s)).length := by omega
          have hcK : c < K := by omega
          obtain ⟨a1, a2⟩ := HAt.out i hil hok (by rw [← HK.out]; omega)
          rw [← hcl] at a1 a2
          have HN : Hid (c + 1 = min K ((m.take (i + 1)).filter (okK s)).length) := by show _ = _; rw [hsl]; omega
          obtain ⟨g2, o2, rfl, y1, y2⟩ := HL.out.keep HBW.out c a1
          rw [a2] at y1 y2
          have hmo : (c : Int) < most := by have := HK.out; omega
          have h100 : (c : Int) < 100 := by have := HK.out; omega
          have hcl2 : (c : Int) < (l.length : Int) := by omega
          have hd1 : decide (l.length ≤ c) = false := decide_eq_false (by omega)
          have hd2 : decide ((l.length : Int) ≤ (c : Int)) = false := decide_eq_false (by omega)
          clear hsn hc hsl hok hlow hfull hcl hcK a1 a2
          generalize m.getD i pr0 = t at *
          go_wp2
          go_quiet (fail)
          go_wp2
          go_roundw
          case rel => exact ⟨i + 1, c + 1, by omega, by go_num, by go_num, HN.out, below_drewN HBW.out _⟩
          case measure => simp [intOf]; omega
    · obtain rfl : i = m.length := by omega
      have hcl : c = l.length := by rw [HC.out, HLn.out]
      have HF : Hid (Below w.heap.size w wr) := HB1.out.trans (HBW.out.mono HB1.out.size)
      subst hcl
      clear hc
      go_wp2
      go_ret
      exact ⟨rfl, HF.out⟩
end Go.Proofs.YtgepjjebjhidiaaGreatDoor
namespace Go.Proofs.YtgepjjebjhidiaaGreatDoor
open Go.RowKit

/-- the path of bytes -/
def pathB (l : List UInt8) : List Nat := (nibs l).map Int.toNat
theorem pathN_B (k : ByteArray) : pathN k = pathB k.toList := by
  unfold pathN pathB
  rw [ByteArray.toList_eq]
theorem pathB_cons (b : UInt8) (r : List UInt8) : pathB (b :: r) = (b.toNat / 16) :: (b.toNat % 16) :: pathB r := by
  unfold pathB
  simp only [nibs, List.map_cons]
  congr 1
theorem less_plt : ∀ (a b : List UInt8), Op.bytesLess a b = true ↔ plt (pathB a) (pathB b)
  | [], [] => by simp [Op.bytesLess, pathB, nibs, plt]
  | [], b :: y => by rw [pathB_cons]; simp [Op.bytesLess, pathB, nibs, plt]
  | a :: x, [] => by rw [pathB_cons]; simp [Op.bytesLess, pathB, nibs, plt]
  | a :: x, b :: y => by
    have ih := less_plt x y
    rw [pathB_cons, pathB_cons]
    simp only [Op.bytesLess, plt, Bool.or_eq_true, Bool.and_eq_true, decide_eq_true_eq, beq_iff_eq, ih, UInt8.lt_iff_toNat_lt]
    constructor
    · rintro (h | ⟨rfl, h⟩)
      · by_cases h1 : a.toNat / 16 < b.toNat / 16
        · exact .inl h1
        · exact .inr ⟨by omega, .inl (by omega)⟩
      · exact .inr ⟨rfl, .inr ⟨rfl, h⟩⟩
    · rintro (h | ⟨h1, h | ⟨h2, h⟩⟩)
      · exact .inl (by omega)
      · exact .inl (by omega)
      · exact .inr ⟨UInt8.toNat_inj.1 (by omega), h⟩
theorem pathB_inj : ∀ (a b : List UInt8), pathB a = pathB b → a = b
  | [], [], _ => rfl
  | [], b :: y, h => by rw [pathB_cons] at h; simp [pathB, nibs] at h
  | a :: x, [], h => by rw [pathB_cons] at h; simp [pathB, nibs] at h
  | a :: x, b :: y, h => by
    rw [pathB_cons, pathB_cons] at h
    injection h with h1 h
    injection h with h2 h
    rw [pathB_inj x y h, show a = b from UInt8.toNat_inj.1 (by omega)]
theorem pathN_inj {a b : ByteArray} (h : pathN a = pathN b) : a = b := by
  rw [pathN_B, pathN_B] at h
  exact str_inj (pathB_inj _ _ h)
/-- a map by rising keys, within bounds -/
structure MapOk (m : List Pr) : Prop where
  rise : m.Pairwise (fun a b => Op.bytesLess a.1.toList b.1.toList = true)
  bound : ∀ p ∈ m, p.1.size ≤ 64 ∧ p.2.size ≤ 400 ∧ p.2.size ≠ 0
theorem less_irrefl (a : List UInt8) : Op.bytesLess a a = false := by
  cases h : Op.bytesLess a a with
  | false => rfl
  | true => exact absurd ((less_plt a a).1 h) (plt_irrefl _)
/-- a tree holds what a map holds -/
structure Holds (n : Nd) (m : List Pr) : Prop where
  map : MapOk m
  look : ∀ k : ByteArray, k.size ≤ 64 → n.look (pathN k) = valueL m k
  keys : ∀ p, (n.look p).size ≠ 0 → ∃ k : ByteArray, p = pathN k ∧ k.size ≤ 64
theorem valueL_mem : ∀ (m : List Pr) (k : ByteArray), (valueL m k).size ≠ 0 → (k, valueL m k) ∈ m
  | [], k, h => absurd rfl h
  | p :: m, k, h => by
    by_cases e : p.1 = k
    · subst e
      simp [valueL]
    · have e2 : valueL (p :: m) k = valueL m k := by simp [valueL, e]
      rw [e2] at h ⊢
      exact List.mem_cons_of_mem _ (valueL_mem m k h)
theorem valueL_of : ∀ (m : List Pr) (p : Pr), m.Pairwise (fun a b => Op.bytesLess a.1.toList b.1.toList = true) → p ∈ m → valueL m p.1 = p.2
  | [], p, _, h => by cases h
  | q :: m, p, hw, h => by
    rcases List.mem_cons.1 h with rfl | h
    · simp [valueL]
    · have h1 := (List.pairwise_cons.1 hw).1 p h
      have hne : ¬ q.1 = p.1 := fun e => by rw [e, less_irrefl] at h1; cases h1
      simp only [valueL, hne, if_false]
      exact valueL_of m p (List.pairwise_cons.1 hw).2 h
/-- in the order of their keys, all that a tree holds -/
theorem Holds.flat {n : Nd} {m : List Pr} (h : Holds n m) (hw : n.WF) : n.flat [] = m.map fun p => (pathN p.1, p.2) := by
  refine sorted_same (R := fun x y => plt x.1 y.1) (fun a => plt_irrefl _) (fun {a b c} (h1 : plt a.1 b.1) (h2 : plt b.1 c.1) => plt_trans h1 h2) _ _ (flat_sorted n [] hw) ?_ ?_
  · rw [List.pairwise_map]
    exact h.map.rise.imp (fun hab => by
      show plt (pathN _) (pathN _)
      rw [pathN_B, pathN_B]
      exact (less_plt _ _).1 hab)
  · intro x
    rw [flat_mem n [] x hw, List.mem_map]
    constructor
    · rintro ⟨r, e, h1, h2⟩
      rw [List.nil_append] at e
      obtain ⟨k, hk, hks⟩ := h.keys r (by rw [h1]; exact h2)
      subst hk
      have hv := h.look k hks
      rw [h1] at hv
      refine ⟨(k, valueL m k), valueL_mem m k (by rw [← hv]; exact h2), ?_⟩
      obtain ⟨x1, x2⟩ := x
      dsimp only at e hv ⊢
      rw [e, hv]
    · rintro ⟨p, hp, rfl⟩
      obtain ⟨b1, b2, b3⟩ := h.map.bound p hp
      exact ⟨pathN p.1, rfl, by rw [h.look p.1 b1, valueL_of m p h.map.rise hp], b3⟩
theorem Holds.keysOk {n : Nd} {m : List Pr} (h : Holds n m) (hw : n.WF) : KeysOk (n.flat []) := by
  rw [h.flat hw]
  intro x hx
  obtain ⟨p, hp, rfl⟩ := List.mem_map.1 hx
  obtain ⟨b1, b2, _⟩ := h.map.bound p hp
  exact ⟨⟨p.1, rfl, b1⟩, b2⟩
theorem tell_map (f : ByteArray) (m : List Pr) : tellL (pathN f) (m.map fun p => (pathN p.1, p.2)) = m.filter (okK f) := by
  induction m with
  | nil => rfl
  | cons p m ih =>
    have e : tellL (pathN f) ((p :: m).map fun p => (pathN p.1, p.2)) = tellL (pathN f) [(pathN p.1, p.2)] ++ tellL (pathN f) (m.map fun p => (pathN p.1, p.2)) := by
      rw [← tellL_append]; rfl
    rw [e, ih, tellL_val _ _ p.1 p.2 rfl, List.filter_cons]
    unfold valPairs okK
    have hiff : cmpL (pathN p.1) (pathN f) < 0 ↔ Op.bytesLess p.1.toList f.toList = true := by
      rw [cmpL_neg, pathN_B, pathN_B]
      exact (less_plt _ _).symm
    cases hb : Op.bytesLess p.1.toList f.toList with
    | true => rw [if_pos (hiff.2 hb)]; simp
    | false => rw [if_neg (fun h => by rw [hiff.1 h] at hb; cases hb)]; simp
end Go.Proofs.YtgepjjebjhidiaaGreatDoor
