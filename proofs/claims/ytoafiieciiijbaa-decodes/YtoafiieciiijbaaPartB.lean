/-
  OUR OWN: the walk of (*Book).parts.
-/
import Derived.Test.YtoafiieciiijbaaPartA
namespace Go.Proofs.Ytoafiieciiijbaa
open Go.RowKit

theorem PartPost.lift {w w' : World} {o : Obj} {B : Nat} {l2 l3 l4 l5 l6 L2 lv : Value} {N2 n : Nat} {rows : List Value} {m : Value} (P : PartPost (w.alloc o) w' B l2 l3 l4 l5 l6 L2 N2 rows lv n m) : PartPost w w' B l2 l3 l4 l5 l6 L2 N2 rows lv n m := by
  have hs : (w.alloc o).heap.size = w.heap.size + 1 := by simp
  obtain ⟨L2', x, y, z, h1, h2, h3, h4, h5, h6, h7, h8⟩ := P.ends
  refine ⟨⟨L2', x, y, z, h1, h2, h3, h4, h5, h6, fun u hu k e => ?_, fun k e => ?_⟩, P.os, P.tape, P.output, by have := P.size; omega, fun k hk a b c => ?_⟩
  · obtain ⟨q1, q2, q3, q4⟩ := h7 u hu k e
    exact ⟨q1, q2, q3, q4.imp id (fun h => by omega)⟩
  · obtain ⟨q1, q2, q3⟩ := h8 k e
    exact ⟨q1, q2, q3.imp id (fun h => by omega)⟩
  · rw [P.far k (by omega) a b c]
    exact Below.heap_alloc _ _ _ hk

theorem mark_cells {w : World} {M : Nat} {m : Int} (h : w.heap[M]? = some (.cells #[.bool false, .int .i64 m, .string ⟨#[]⟩] 24 (0, 0))) : w.cell? ⟨M, 0, none⟩ = some (.bool false) ∧ w.cell? ⟨M, 1, none⟩ = some (.int .i64 m) ∧ w.cell? ⟨M, 2, none⟩ = some (.string ⟨#[]⟩) :=
  ⟨cell_of_blk h 0, cell_of_blk h 1, cell_of_blk h 2⟩

theorem blk5 {w3 w4 : World} {o4 : Obj} {ob : Option Nat} {B : Nat} {cs : Array Value} {t : TypeId} (h : w3.heap[B]? = some (.cells cs t (0, 0))) (G4 : (w3.alloc o4).grownBy w4 ob) (hB2 : ob ≠ some B) : w4.heap[B]? = some (.cells cs t (0, 0)) := by
  have hlt : B < w3.heap.size := (Array.getElem?_eq_some_iff.1 h).1
  rw [G4.block B (by simp; omega) (fun e => hB2 e.symm), Below.heap_alloc _ _ _ hlt]; exact h
theorem ne_row {ob : Option Nat} {g X M : Nat} (h : ob = some g ∨ g = X) (ho : ob ≠ some M) (hM : M < X) : some g ≠ some M := by
  rcases h with h | h
  · rw [← h]; exact ho
  · intro e; simp at e; omega
theorem mark_news (w : World) (m : Value) : ∀ j u, [Value.bool false, m, Value.string ⟨#[]⟩][j]? = some u → (w.alloc (.cells #[.bool false, m, .string ⟨#[]⟩] 24)).cell? ((⟨w.heap.size, 0, none⟩ : Addr).add j) = some u :=
  World.news_of_block (cs := #[.bool false, m, .string ⟨#[]⟩]) (t := 24) (fr := (0, 0)) (heap_alloc_new w _)

set_option maxRecDepth 100000 in
set_option maxHeartbeats 1600000 in
theorem parts_some (L2 : Value) (B : Nat) (l2 l3 l4 l5 l6 : Value) (N2 q : Nat) (rows : List Value) (lv : Value) (n g c : Nat) (hlv : lv = .slice (some ⟨g, 0, none⟩) n c) (xs : List Value) (w : World)
    (hB : w.heap[B]? = some (.cells #[L2, l2, l3, l4, l5, l6] 39 (0, 0))) (h2 : w.ownsRow 0 22 1 L2 N2 rows) (hq : (N2 : Int) / 4 = (q : Int)) (hN2 : N2 ≤ 100) (hq1 : q ≤ 25)
    (hl : w.ownsRow 0 24 3 lv n xs) (hn : n ≤ 1000000) (hBl : lv.ownBlock ≠ some B) (hB2 : L2.ownBlock ≠ some B) (h2l : L2.ownBlock = none ∨ L2.ownBlock ≠ lv.ownBlock) :
    Calls Try.prog 14 #[.pointer (some ⟨B, 0, none⟩), lv] w fun e w' => e = .returned (.tuple #[]) ∧ PartPost w w' B l2 l3 l4 l5 l6 L2 N2 rows lv n (.int .i64 (-7 - (q : Int))) := by
  obtain ⟨i0, hi, hz0, hz1, hz2⟩ := info_parts info24
  obtain ⟨j0, hj, hy0, hy1, hy2⟩ := info_parts infoPs
  subst hlv
  have hlg : g < w.heap.size := by rcases hl.2 with ⟨h, _⟩ | ⟨g', c', cur, h, _, hg, _⟩; · cases h
                                   · simp at h; rw [h.1]; exact (Array.getElem?_eq_some_iff.1 hg).1
  have hgB : g ≠ B := fun e => hBl (by simp [Value.ownBlock, e])
  have hBs : B < w.heap.size := (Array.getElem?_eq_some_iff.1 hB).1
  have hcB : w.cell? ⟨B, 0, none⟩ = some L2 := by rw [cell_of_blk hB]; rfl
  obtain ⟨m, hm⟩ : ∃ m : Int, Hid (-7 - (q : Int) = m) := ⟨_, rfl⟩
  rw [hm.out]
  have H2 : Hid ((w.alloc (.cells #[.bool false, .int .i64 m, .string ⟨#[]⟩] 24)).ownsRow 0 22 1 L2 N2 rows) := h2.alloc _
  have HL : Hid ((w.alloc (.cells #[.bool false, .int .i64 m, .string ⟨#[]⟩] 24)).ownsRow 0 24 3 (.slice (some ⟨g, 0, none⟩) n c) n xs) := hl.alloc _
  have HB : Hid ((w.alloc (.cells #[.bool false, .int .i64 m, .string ⟨#[]⟩] 24)).heap[B]? = some (.cells #[L2, l2, l3, l4, l5, l6] 39 (0, 0))) := (Below.heap_alloc _ _ _ hBs).trans hB
  have HM : Hid ((w.alloc (.cells #[.bool false, .int .i64 m, .string ⟨#[]⟩] 24)).heap[w.heap.size]? = some (.cells #[.bool false, .int .i64 m, .string ⟨#[]⟩] 24 (0, 0))) := heap_alloc_new w _
  have HMs : Hid (w.heap.size < (w.alloc (.cells #[.bool false, .int .i64 m, .string ⟨#[]⟩] 24)).heap.size) := by show _ < _; simp
  have HBl := hide hBl
  have HB2 := hide hB2
  have H2l := hide h2l
  have hsh : ∃ ao c2, L2 = .slice ao N2 c2 := by
    rcases h2.2 with ⟨h, h'⟩ | ⟨g', c', cur, h, _⟩
    · exact ⟨none, 0, by rw [h, h']⟩
    · exact ⟨_, _, h⟩
  have hM2 : Hid (L2.ownBlock ≠ some w.heap.size) := fun e => by have := (h2.lt _ e).2; omega
  clear h2 hl hB hBl hB2 h2l
  obtain ⟨ao, c2, hL2⟩ := hsh
  subst hL2
  go_enter Try.func14, Try.ntmps14
  go_wp2
  rw [hm.out]
  generalize hW0 : w.alloc (.cells #[.bool false, .int .i64 m, .string ⟨#[]⟩] 24) = W0 at *
  have HW0 := hide hW0
  clear hW0
  go_loopw [5] (fun i wr => ∃ k : Nat, k ≤ n ∧ i = .int .i64 (k : Int) ∧ wr.ownsRow 0 24 3 (.slice (some ⟨g, 0, none⟩) n c) n (rep3 k (.int .i64 m) ++ xs.drop (k * 3)) ∧ W0.grownBy wr (some g)) (fun i _ => n - (intOf i).toNat)
  case atStart => exact ⟨0, Nat.zero_le _, rfl, by simpa [rep3] using HL.out, World.grownBy.refl _ _⟩
  case round =>
    obtain ⟨k, hk, rfl, hown, hgr⟩ := hrel
    have hMr : wr.heap[w.heap.size]? = some (.cells #[.bool false, .int .i64 m, .string ⟨#[]⟩] 24 (0, 0)) := by
      rw [hgr.block w.heap.size HMs.out (by simp; omega)]; exact HM.out
    obtain ⟨m0, m1, m2⟩ := mark_cells hMr
    have HMr := hide hMr
    clear hMr
    by_cases hlt : k < n
    · have hxl : xs.length = n * 3 := by simpa using HL.out.1
      have hst := hown.stored (k * 3) (.bool false)
      have hst1 := hst.1.stored (k * 3 + 1) (.int .i64 m)
      have hst2 := hst1.1.stored (k * 3 + 2) (.string ⟨#[]⟩)
      rw [rep3_step n k xs (.int .i64 m) hxl hlt] at hst2
      have HS := hide (And.intro hst2.1 (((hgr.trans hst.2).trans hst1.2).trans hst2.2))
      have hln : (rep3 k (.int .i64 m) ++ xs.drop (k * 3)).length = n * 3 := hown.1
      have cellX : ∀ j, j < n * 3 → ∃ u, wr.cell? ⟨g, j, none⟩ = some u := fun j hj => by
        rw [hown.cellAt j hj]
        exact ⟨_, List.getElem?_eq_getElem (by omega)⟩
      obtain ⟨u0, hu0⟩ := cellX (k * 3) (by omega)
      obtain ⟨u1, hu1⟩ := cellX (k * 3 + 1) (by omega)
      obtain ⟨u2, hu2⟩ := cellX (k * 3 + 2) (by omega)
      have hf0 := hown.frozenAt (k * 3)
      have hf1 := hown.frozenAt (k * 3 + 1)
      have hf2 := hown.frozenAt (k * 3 + 2)
      clear hst hst1 hst2 hown hgr hxl hln cellX
      go_wp2
      go_roundw
      case rel => exact ⟨k + 1, by omega, by go_num, HS.out.1, HS.out.2⟩
      case measure => simp [intOf]; omega
    · have hke : k = n := by omega
      have hxl : xs.length = n * 3 := by simpa using HL.out.1
      rw [hke, List.drop_eq_nil_of_le (by omega), List.append_nil] at hown
      have HOW := hide hown
      have HGR := hide hgr
      have hMl : w.heap.size < wr.heap.size := by have := HMs.out; have := hgr.size; omega
      have hgM : (Value.slice (some ⟨g, 0, none⟩) n c).ownBlock ≠ some w.heap.size := by simp [Value.ownBlock]; omega
      clear hown hgr hke hxl HL
      have tok1 : True := trivial
      have tok2 : True := trivial
      have tok3 : True := trivial
      go_wp2_with (first
        | (at_builtin; have _t := tok1; go_must (refine wpList_append_keeps _ rfl (.tmp 27) (.tmp 29) 22 rfl 0 24 i0 _ 3 32 Try.underlying22 hi hz0 hz1 hz2 rfl (by decide) (.slice (some ⟨g, 0, none⟩) n c) (n) _ rfl (HOW.out.alloc _) ⟨wr.heap.size, 0, none⟩ 1 1 [.bool false, .int .i64 m, .string ⟨#[]⟩] rfl rfl (mark_news wr _) (by simp [Value.oneCell']) (by omega) (by unfold maxLen; omega) (by omega) (Nat.zero_le _) ?_); intro g1 c1 w1 O1 K1 G1 A1 T1; go_must (have F1 := hide (And.intro O1 (And.intro K1 (And.intro G1 (And.intro A1 T1))))); clear tok1 O1 K1 G1 A1 T1; go_must (have S1 := hide F1.out.1; rw [rep3_snoc] at S1); go_must (have Ne1 := hide (ne_row F1.out.2.2.2.1 hgM (by have := hMl; simp; omega))); go_must (have HM1 := hide (blk5 HMr.out F1.out.2.2.1 hgM)); have q1 := mark_cells HM1.out; have q1a := q1.1; have q1b := q1.2.1; have q1c := q1.2.2; clear q1; have hMl1 := (Array.getElem?_eq_some_iff.1 HM1.out).1)
        | (at_builtin; have _t := tok2; go_must (refine wpList_append_keeps _ rfl (.tmp 31) (.tmp 33) 22 rfl 0 24 i0 _ 3 32 Try.underlying22 hi hz0 hz1 hz2 rfl (by decide) (.slice (some ⟨g1, 0, none⟩) (n + 1) c1) (n + 1) _ rfl (S1.out.alloc _) ⟨w1.heap.size, 0, none⟩ 1 1 [.bool false, .int .i64 m, .string ⟨#[]⟩] rfl rfl (mark_news w1 _) (by simp [Value.oneCell']) (by omega) (by unfold maxLen; omega) (by omega) (Nat.zero_le _) ?_); intro g2 c3 w2 O1 K1 G1 A1 T1; go_must (have F2 := hide (And.intro O1 (And.intro K1 (And.intro G1 (And.intro A1 T1))))); clear tok2 O1 K1 G1 A1 T1; go_must (have S2 := hide F2.out.1; rw [rep3_snoc] at S2); go_must (have Ne2 := hide (ne_row F2.out.2.2.2.1 Ne1.out (by simp; omega))); go_must (have HM2 := hide (blk5 HM1.out F2.out.2.2.1 Ne1.out)); have q2 := mark_cells HM2.out; have q2a := q2.1; have q2b := q2.2.1; have q2c := q2.2.2; clear q2; have hMl2 := (Array.getElem?_eq_some_iff.1 HM2.out).1)
        | (at_builtin; have _t := tok3; go_must (refine wpList_append_keeps _ rfl (.tmp 35) (.tmp 37) 22 rfl 0 24 i0 _ 3 32 Try.underlying22 hi hz0 hz1 hz2 rfl (by decide) (.slice (some ⟨g2, 0, none⟩) (n + 2) c3) (n + 2) _ rfl (S2.out.alloc _) ⟨w2.heap.size, 0, none⟩ 1 1 [.bool false, .int .i64 m, .string ⟨#[]⟩] rfl rfl (mark_news w2 _) (by simp [Value.oneCell']) (by omega) (by unfold maxLen; omega) (by omega) (Nat.zero_le _) ?_); intro g3 c4 w3 O1 K1 G1 A1 T1; go_must (have F3 := hide (And.intro O1 (And.intro K1 (And.intro G1 (And.intro A1 T1))))); clear tok3 O1 K1 G1 A1 T1; go_must (have T := hide (three3 (g1 := g1) (g2 := g2) (g3 := g3) HGR.out F1.out.1 F1.out.2.1 F1.out.2.2.1 (by simpa [Value.ownBlock] using F1.out.2.2.2.1) F2.out.1 (by have := F2.out.2.1; simpa [rep3_snoc] using this) F2.out.2.2.1 (by simpa [Value.ownBlock] using F2.out.2.2.2.1) F3.out.1 (by have := F3.out.2.1; simpa [rep3_snoc] using this) F3.out.2.2.1 (by simpa [Value.ownBlock] using F3.out.2.2.2.1))); go_must (have HB3 := hide (T.out.cellB HB.out HBl.out)); go_must (have hcB3 : w3.cell? ⟨B, 0, none⟩ = some (.slice ao N2 c2) := by rw [cell_of_blk HB3.out]; rfl))
        | (at_builtin; go_must (refine wpList_append_keeps _ rfl (.tmp 43) (.tmp 48) 33 rfl 0 22 j0 (.slice none 0 0) 1 24 Try.underlying33 hj hy0 hy1 hy2 rfl (by decide) (.slice ao N2 c2) N2 rows rfl ((T.out.own2 H2l.out H2.out).alloc _) ⟨w3.heap.size, 0, none⟩ 4 4 [.slice (some ⟨g, 0, none⟩) n c, .slice (some ⟨g1, 0, none⟩) (n + 1) c1, .slice (some ⟨g2, 0, none⟩) (n + 2) c3, .slice (some ⟨g3, 0, none⟩) (n + 3) c4] rfl rfl (news_ofT w3 22 _) (by simp [Value.oneCell']) (by omega) (by unfold maxLen; omega) (by omega) (Nat.zero_le _) ?_); intro g4 c5 w4 O4 K4 G4 A4 T4; go_must (have F4 := hide (And.intro O4 (And.intro G4 A4))); go_must (have HB4 := hide (blk4 HB3.out G4 HB2.out)); clear O4 K4 G4 A4 T4; go_must (have hcB4 : w4.cell? ⟨B, 0, none⟩ = some (.slice ao N2 c2) := by rw [cell_of_blk HB4.out]; rfl); go_must (have hfB4 := frozen_of_blk HB4.out 0)))
      go_end0
      refine ⟨rfl, ?_⟩
      have PP := partPost_mk T.out HB.out HBl.out HB2.out H2l.out H2.out F4.out.1 F4.out.2.1 (by
        intro k hk
        obtain rfl : g4 = k := by simpa [Value.ownBlock] using hk
        simpa using F4.out.2.2)
      rw [← HW0.out] at PP
      exact PP.lift
set_option maxRecDepth 100000 in
set_option maxHeartbeats 1600000 in
theorem parts_nil (L2 : Value) (B : Nat) (l2 l3 l4 l5 l6 : Value) (N2 q : Nat) (rows : List Value) (w : World)
    (hB : w.heap[B]? = some (.cells #[L2, l2, l3, l4, l5, l6] 39 (0, 0))) (h2 : w.ownsRow 0 22 1 L2 N2 rows) (hq : (N2 : Int) / 4 = (q : Int)) (hN2 : N2 ≤ 100) (hq1 : q ≤ 25)
    (hB2 : L2.ownBlock ≠ some B) :
    Calls Try.prog 14 #[.pointer (some ⟨B, 0, none⟩), .slice none 0 0] w fun e w' => e = .returned (.tuple #[]) ∧ PartPost w w' B l2 l3 l4 l5 l6 L2 N2 rows (.slice none 0 0) 0 (.int .i64 (-7 - (q : Int))) := by
  obtain ⟨i0, hi, hz0, hz1, hz2⟩ := info_parts info24
  obtain ⟨j0, hj, hy0, hy1, hy2⟩ := info_parts infoPs
  have hBl : (Value.slice none 0 0).ownBlock ≠ some B := by simp [Value.ownBlock]
  have h2l : L2.ownBlock = none ∨ L2.ownBlock ≠ (Value.slice none 0 0).ownBlock := by cases h : L2.ownBlock <;> simp [Value.ownBlock]
  have hBs : B < w.heap.size := (Array.getElem?_eq_some_iff.1 hB).1
  have hcB : w.cell? ⟨B, 0, none⟩ = some L2 := by rw [cell_of_blk hB]; rfl
  obtain ⟨m, hm⟩ : ∃ m : Int, Hid (-7 - (q : Int) = m) := ⟨_, rfl⟩
  rw [hm.out]
  have H2 : Hid ((w.alloc (.cells #[.bool false, .int .i64 m, .string ⟨#[]⟩] 24)).ownsRow 0 22 1 L2 N2 rows) := h2.alloc _
  have HB : Hid ((w.alloc (.cells #[.bool false, .int .i64 m, .string ⟨#[]⟩] 24)).heap[B]? = some (.cells #[L2, l2, l3, l4, l5, l6] 39 (0, 0))) := (Below.heap_alloc _ _ _ hBs).trans hB
  have HM : Hid ((w.alloc (.cells #[.bool false, .int .i64 m, .string ⟨#[]⟩] 24)).heap[w.heap.size]? = some (.cells #[.bool false, .int .i64 m, .string ⟨#[]⟩] 24 (0, 0))) := heap_alloc_new w _
  have HMs : Hid (w.heap.size < (w.alloc (.cells #[.bool false, .int .i64 m, .string ⟨#[]⟩] 24)).heap.size) := by show _ < _; simp
  have HBl := hide hBl
  have HB2 := hide hB2
  have H2l := hide h2l
  have hsh : ∃ ao c2, L2 = .slice ao N2 c2 := by
    rcases h2.2 with ⟨h, h'⟩ | ⟨g', c', cur, h, _⟩
    · exact ⟨none, 0, by rw [h, h']⟩
    · exact ⟨_, _, h⟩
  clear h2 hB hBl hB2 h2l
  obtain ⟨ao, c2, hL2⟩ := hsh
  subst hL2
  go_enter Try.func14, Try.ntmps14
  go_wp2
  rw [hm.out]
  generalize hW0 : w.alloc (.cells #[.bool false, .int .i64 m, .string ⟨#[]⟩] 24) = W0 at *
  have HW0 := hide hW0
  clear hW0
  have HOW : Hid (W0.ownsRow 0 24 3 (.slice none 0 0) 0 (rep3 0 (.int .i64 m))) := World.ownsRow_nil _ _ _ _
  have HGR : Hid (W0.grownBy W0 (Value.slice none 0 0).ownBlock) := World.grownBy.refl _ _
  have hMl : w.heap.size < W0.heap.size := HMs.out
  have hgM : (Value.slice none 0 0).ownBlock ≠ some w.heap.size := by simp [Value.ownBlock]
  have q0 := mark_cells HM.out
  have q0a := q0.1
  have q0b := q0.2.1
  have q0c := q0.2.2
  clear q0
  refine wp_loop_rounds 1 ?_
  rw [rounds_succ]
  have tok1 : True := trivial
  have tok2 : True := trivial
  have tok3 : True := trivial
  go_wp2_with (first
    | (at_builtin; have _t := tok1; go_must (refine wpList_append_keeps _ rfl (.tmp 27) (.tmp 29) 22 rfl 0 24 i0 _ 3 32 Try.underlying22 hi hz0 hz1 hz2 rfl (by decide) (Value.slice none 0 0) 0 _ rfl (HOW.out.alloc _) ⟨W0.heap.size, 0, none⟩ 1 1 [.bool false, .int .i64 m, .string ⟨#[]⟩] rfl rfl (mark_news W0 _) (by simp [Value.oneCell']) (by omega) (by unfold maxLen; omega) (by omega) (Nat.zero_le _) ?_); intro g1 c1 w1 O1 K1 G1 A1 T1; go_must (have F1 := hide (And.intro O1 (And.intro K1 (And.intro G1 (And.intro A1 T1))))); clear tok1 O1 K1 G1 A1 T1; go_must (have S1 := hide F1.out.1; rw [rep3_snoc] at S1); go_must (have Ne1 := hide (ne_row F1.out.2.2.2.1 hgM (by have := hMl; simp; omega))); go_must (have HM1 := hide (blk5 HM.out F1.out.2.2.1 hgM)); have q1 := mark_cells HM1.out; have q1a := q1.1; have q1b := q1.2.1; have q1c := q1.2.2; clear q1; have hMl1 := (Array.getElem?_eq_some_iff.1 HM1.out).1)
    | (at_builtin; have _t := tok2; go_must (refine wpList_append_keeps _ rfl (.tmp 31) (.tmp 33) 22 rfl 0 24 i0 _ 3 32 Try.underlying22 hi hz0 hz1 hz2 rfl (by decide) (.slice (some ⟨g1, 0, none⟩) (0 + 1) c1) (0 + 1) _ rfl (S1.out.alloc _) ⟨w1.heap.size, 0, none⟩ 1 1 [.bool false, .int .i64 m, .string ⟨#[]⟩] rfl rfl (mark_news w1 _) (by simp [Value.oneCell']) (by omega) (by unfold maxLen; omega) (by omega) (Nat.zero_le _) ?_); intro g2 c3 w2 O1 K1 G1 A1 T1; go_must (have F2 := hide (And.intro O1 (And.intro K1 (And.intro G1 (And.intro A1 T1))))); clear tok2 O1 K1 G1 A1 T1; go_must (have S2 := hide F2.out.1; rw [rep3_snoc] at S2); go_must (have Ne2 := hide (ne_row F2.out.2.2.2.1 Ne1.out (by simp; omega))); go_must (have HM2 := hide (blk5 HM1.out F2.out.2.2.1 Ne1.out)); have q2 := mark_cells HM2.out; have q2a := q2.1; have q2b := q2.2.1; have q2c := q2.2.2; clear q2; have hMl2 := (Array.getElem?_eq_some_iff.1 HM2.out).1)
    | (at_builtin; have _t := tok3; go_must (refine wpList_append_keeps _ rfl (.tmp 35) (.tmp 37) 22 rfl 0 24 i0 _ 3 32 Try.underlying22 hi hz0 hz1 hz2 rfl (by decide) (.slice (some ⟨g2, 0, none⟩) (0 + 2) c3) (0 + 2) _ rfl (S2.out.alloc _) ⟨w2.heap.size, 0, none⟩ 1 1 [.bool false, .int .i64 m, .string ⟨#[]⟩] rfl rfl (mark_news w2 _) (by simp [Value.oneCell']) (by omega) (by unfold maxLen; omega) (by omega) (Nat.zero_le _) ?_); intro g3 c4 w3 O1 K1 G1 A1 T1; go_must (have F3 := hide (And.intro O1 (And.intro K1 (And.intro G1 (And.intro A1 T1))))); clear tok3 O1 K1 G1 A1 T1; go_must (have T := hide (three3 (g1 := g1) (g2 := g2) (g3 := g3) HGR.out F1.out.1 F1.out.2.1 F1.out.2.2.1 (by simpa [Value.ownBlock] using F1.out.2.2.2.1) F2.out.1 (by have := F2.out.2.1; simpa [rep3_snoc] using this) F2.out.2.2.1 (by simpa [Value.ownBlock] using F2.out.2.2.2.1) F3.out.1 (by have := F3.out.2.1; simpa [rep3_snoc] using this) F3.out.2.2.1 (by simpa [Value.ownBlock] using F3.out.2.2.2.1))); go_must (have HB3 := hide (T.out.cellB HB.out HBl.out)); go_must (have hcB3 : w3.cell? ⟨B, 0, none⟩ = some (.slice ao N2 c2) := by rw [cell_of_blk HB3.out]; rfl))
    | (at_builtin; go_must (refine wpList_append_keeps _ rfl (.tmp 43) (.tmp 48) 33 rfl 0 22 j0 (.slice none 0 0) 1 24 Try.underlying33 hj hy0 hy1 hy2 rfl (by decide) (.slice ao N2 c2) N2 rows rfl ((T.out.own2 H2l.out H2.out).alloc _) ⟨w3.heap.size, 0, none⟩ 4 4 [Value.slice none 0 0, .slice (some ⟨g1, 0, none⟩) (0 + 1) c1, .slice (some ⟨g2, 0, none⟩) (0 + 2) c3, .slice (some ⟨g3, 0, none⟩) (0 + 3) c4] rfl rfl (news_ofT w3 22 _) (by simp [Value.oneCell']) (by omega) (by unfold maxLen; omega) (by omega) (Nat.zero_le _) ?_); intro g4 c5 w4 O4 K4 G4 A4 T4; go_must (have F4 := hide (And.intro O4 (And.intro G4 A4))); go_must (have HB4 := hide (blk4 HB3.out G4 HB2.out)); clear O4 K4 G4 A4 T4; go_must (have hcB4 : w4.cell? ⟨B, 0, none⟩ = some (.slice ao N2 c2) := by rw [cell_of_blk HB4.out]; rfl); go_must (have hfB4 := frozen_of_blk HB4.out 0)))
  go_end0
  refine ⟨rfl, ?_⟩
  have PP := partPost_mk T.out HB.out HBl.out HB2.out H2l.out H2.out F4.out.1 F4.out.2.1 (by
    intro k hk
    obtain rfl : g4 = k := by simpa [Value.ownBlock] using hk
    simpa using F4.out.2.2)
  rw [← HW0.out] at PP
  exact PP.lift
end Go.Proofs.Ytoafiieciiijbaa
