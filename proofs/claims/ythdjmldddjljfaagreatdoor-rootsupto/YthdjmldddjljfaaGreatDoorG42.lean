/-
  OUR OWN: SxE SxF.
-/
import Derived.Test.YthdjmldddjljfaaGreatDoorG41
namespace Go.Proofs.YthdjmldddjljfaaGreatDoor
open Go.RowKit
attribute [local go_sem ↓] Go.wp_at_zero Go.wp_at_succ

set_option maxHeartbeats 8000000 in
set_option maxRecDepth 20000 in
theorem putStep_del (Hk : Nd → ByteArray → Prop) (ok : Nat → Prop) (T bx : Nat) (st : Value) (n : Nd) (u : Value) (k : ByteArray) (w : World) (hok : ∀ k, ok k → k < w.heap.size) (hn : NdAt Hk ok w n u) (hO : TOk n) (hk : k.size ≤ 64)
    (hbx : w.heap[bx]? = some (.cells #[ptr T] 104 (0, 0))) (hT : w.cell? ⟨T, 0, none⟩ = some st) :
    Calls Tryz.prog 42 #[.agg #[u, .string e0], .agg #[.string k, .string e0], ptr bx] w fun e w' => RefPost Hk ok (n.set (pathN k) e0) w e w' := by
  have HS0 := hide (SBox.start u k e0 hbx hT)
  have HD : Hid (n.set (pathN k) e0 = n.drop (pathN k)) := by show _ = _; unfold Nd.set; rw [if_pos (show e0.size = 0 from rfl)]
  have hnd := hn.isNd
  obtain ⟨W0, hW0⟩ : ∃ W0, (((w.alloc (.cells #[u, .string e0] 65)).alloc (.cells #[.string k, .string e0] 33)).alloc (.cells #[.nilIface, .string e0] 65)) = W0 := ⟨_, rfl⟩
  have HOf : Hid (∀ W, Below W0.heap.size W0 W → Calls Tryz.prog 44 #[.string k] W fun e w' => ∃ g, e = .returned (.slice (some ⟨g, 0, none⟩) (pathN k).length (2 * k.size)) ∧ Nums w' (some ⟨g, 0, none⟩) (pathN k) ∧ Below W0.heap.size W0 w') := fun W hW => by
    refine (of_nums k W (by omega)).mono ?_
    rintro e w' ⟨g, rfl, h1, _, h2⟩
    exact ⟨g, rfl, h1, hW.trans (h2.mono hW.size)⟩
  rw [hW0] at HS0
  have HDr0 : Hid (∀ W g, Below W0.heap.size W0 W → Nums W (some ⟨g, 0, none⟩) (pathN k) → Calls Tryz.prog 43 #[st, .agg #[u, .string e0], .slice (some ⟨g, 0, none⟩) (pathN k).length (2 * k.size)] W fun e w' => ∃ v', e = .returned (.tuple #[.agg #[v', .string e0], .int .i64 0]) ∧ NdAt Hk (fun k => ok k ∨ w.heap.size + 3 ≤ k) w' (n.drop (pathN k)) v' ∧ SBox w w' T bx st u k e0) := fun W g hW hnu => by
    have hbw := HS0.out.bel.trans (hW.mono HS0.out.bel.size)
    refine (drop_any Hk ok st n u g 0 (2 * k.size) (pathN k) W (fun k hk => Nat.lt_of_lt_of_le (hok k hk) hbw.size) (hn.keep hbw) hO hnu (by rw [pathN_length]; exact Nat.le_refl _) (by rw [pathN_length]; omega) (pathN_lt k)).mono ?_
    rintro e w' ⟨v', rfl, h1, h2⟩
    exact ⟨v', rfl, NdAt.mono (fun k hk => hk.imp id (fun h => Nat.le_trans HS0.out.size (Nat.le_trans hW.size h))) _ _ h1, (HS0.out.keep hW).keep h2⟩
  have HKp : Hid (∀ W, Below W0.heap.size W0 W → SBox w W T bx st u k e0) := fun W hW => HS0.out.keep hW
  have HOK := hide hok
  have l1 := (Array.getElem?_eq_some_iff.1 hbx).1
  have l2 : T < w.heap.size := World.block_lt_of_cell? w _ hT
  have q1 : ¬ bx = w.heap.size + 1 + 1 := by omega
  have q2 : ¬ w.heap.size + 1 + 1 = bx := by omega
  have q3 : ¬ T = w.heap.size + 1 + 1 := by omega
  have q4 : ¬ w.heap.size + 1 + 1 = T := by omega
  have q5 : ¬ w.heap.size = w.heap.size + 1 + 1 := by omega
  have q6 : ¬ w.heap.size + 1 + 1 = w.heap.size := by omega
  clear hn hok hO hbx hT l1 l2
  obtain ⟨c0, c1, c2, c3, c4, c5⟩ := HS0.out.cells
  by_cases hz : n.drop (pathN k) = .nil
  · have HDr : Hid (∀ W g, Below W0.heap.size W0 W → Nums W (some ⟨g, 0, none⟩) (pathN k) → Calls Tryz.prog 43 #[st, .agg #[u, .string e0], .slice (some ⟨g, 0, none⟩) (pathN k).length (2 * k.size)] W fun e w' => e = .returned (.tuple #[.agg #[.nilIface, .string e0], .int .i64 0]) ∧ NdAt Hk (fun k => ok k ∨ w.heap.size + 3 ≤ k) w' (n.drop (pathN k)) .nilIface ∧ SBox w w' T bx st u k e0) := fun W g hW hnu => by
      refine (HDr0.out W g hW hnu).mono ?_
      rintro e w' ⟨v', rfl, h1, h2⟩
      have h3 := h1
      rw [hz] at h3
      obtain rfl : v' = .nilIface := h3
      exact ⟨rfl, h1, h2⟩
    clear HDr0 hz
    rcases hnd with rfl | ⟨t, b, rfl⟩
    · unfold ptr at *
      go_enter Tryz.func42, Tryz.ntmps42
      go_wp2_with fail
      first | rw [hW0] | skip
      clear hW0
      go_region_held3 (fun W => W.cell? ⟨bx, 0, none⟩ = some (.pointer (some ⟨T, 0, none⟩)) ∧ W.cell? ⟨T, 0, none⟩ = some st ∧ W.cell? ⟨w.heap.size, 0, none⟩ = some .nilIface ∧ W.cell? ⟨w.heap.size, 1, none⟩ = some (.string e0) ∧ W.cell? ⟨w.heap.size + 1, 0, none⟩ = some (.string k) ∧ W.cell? ⟨w.heap.size + 1, 1, none⟩ = some (.string e0)) (first | go_keep | (simp [*])) ((first
        | (go_at_call 44; refine (HOf.out _ (by first | exact (Below.refl _ _).drew | exact Below.refl _ _)).mono ?_; rintro e w2 ⟨g, rfl, hnu, hb2⟩; (have HN2 := hide hnu); (have HB2 := hide hb2); (obtain ⟨d0, d1, d2, d3, d4, d5⟩ := (HKp.out w2 hb2).cells); unfold ptr at d0; clear hnu hb2)
        | (go_at_call 43; refine (HDr.out _ g HB2.out HN2.out).mono ?_; rintro e w4 ⟨rfl, hn4, hs4⟩; (have HX4 := hide (And.intro hn4 hs4)); (obtain ⟨j0, j1, j2, j3, j4, j5⟩ := hs4.cells); (obtain ⟨z0, z1, z2, z3⟩ := hs4.out); unfold ptr at j0; clear hn4 hs4)))
      all_goals
        have hfin := HX4.out.2.fin HOK.out HX4.out.1
        have r0 := cell_of_row _ _ 0 _ _ (0, 0) hfin.2
        have r1 := cell_of_row _ _ 1 _ _ (0, 0) hfin.2
        have HFin := hide hfin.1
        clear hfin
        go_wp2
        refine bodyPost_ret (v := .tuple #[.agg #[.nilIface, .string e0], .int .i64 0]) (by first | (simp [results, Tryz.results42, go_sem, r0, r1]; done) | (simp [results, Tryz.results42, go_sem]; done)) rfl ?_
        rw [HD.out]
        first | exact HFin.out | exact HFin.out.drew
    · unfold ptr at *
      go_enter Tryz.func42, Tryz.ntmps42
      go_wp2_with fail
      first | rw [hW0] | skip
      clear hW0
      go_region_held3 (fun W => W.cell? ⟨bx, 0, none⟩ = some (.pointer (some ⟨T, 0, none⟩)) ∧ W.cell? ⟨T, 0, none⟩ = some st ∧ W.cell? ⟨w.heap.size, 0, none⟩ = some (.iface t (.pointer (some ⟨b, 0, none⟩))) ∧ W.cell? ⟨w.heap.size, 1, none⟩ = some (.string e0) ∧ W.cell? ⟨w.heap.size + 1, 0, none⟩ = some (.string k) ∧ W.cell? ⟨w.heap.size + 1, 1, none⟩ = some (.string e0)) (first | go_keep | (simp [*])) ((first
        | (go_at_call 44; refine (HOf.out _ (by first | exact (Below.refl _ _).drew | exact Below.refl _ _)).mono ?_; rintro e w2 ⟨g, rfl, hnu, hb2⟩; (have HN2 := hide hnu); (have HB2 := hide hb2); (obtain ⟨d0, d1, d2, d3, d4, d5⟩ := (HKp.out w2 hb2).cells); unfold ptr at d0; clear hnu hb2)
        | (go_at_call 43; refine (HDr.out _ g HB2.out HN2.out).mono ?_; rintro e w4 ⟨rfl, hn4, hs4⟩; (have HX4 := hide (And.intro hn4 hs4)); (obtain ⟨j0, j1, j2, j3, j4, j5⟩ := hs4.cells); (obtain ⟨z0, z1, z2, z3⟩ := hs4.out); unfold ptr at j0; clear hn4 hs4)))
      all_goals
        have hfin := HX4.out.2.fin HOK.out HX4.out.1
        have r0 := cell_of_row _ _ 0 _ _ (0, 0) hfin.2
        have r1 := cell_of_row _ _ 1 _ _ (0, 0) hfin.2
        have HFin := hide hfin.1
        clear hfin
        go_wp2
        refine bodyPost_ret (v := .tuple #[.agg #[.nilIface, .string e0], .int .i64 0]) (by first | (simp [results, Tryz.results42, go_sem, r0, r1]; done) | (simp [results, Tryz.results42, go_sem]; done)) rfl ?_
        rw [HD.out]
        first | exact HFin.out | exact HFin.out.drew
  · have HDr : Hid (∀ W g, Below W0.heap.size W0 W → Nums W (some ⟨g, 0, none⟩) (pathN k) → Calls Tryz.prog 43 #[st, .agg #[u, .string e0], .slice (some ⟨g, 0, none⟩) (pathN k).length (2 * k.size)] W fun e w' => ∃ t4 b4, e = .returned (.tuple #[.agg #[.iface t4 (ptr b4), .string e0], .int .i64 0]) ∧ NdAt Hk (fun k => ok k ∨ w.heap.size + 3 ≤ k) w' (n.drop (pathN k)) (.iface t4 (ptr b4)) ∧ SBox w w' T bx st u k e0) := fun W g hW hnu => by
      refine (HDr0.out W g hW hnu).mono ?_
      rintro e w' ⟨v', rfl, h1, h2⟩
      obtain ⟨t4, b4, rfl⟩ := h1.some hz
      exact ⟨t4, b4, rfl, h1, h2⟩
    clear HDr0 hz
    rcases hnd with rfl | ⟨t, b, rfl⟩
    · unfold ptr at *
      go_enter Tryz.func42, Tryz.ntmps42
      go_wp2_with fail
      first | rw [hW0] | skip
      clear hW0
      go_region_held3 (fun W => W.cell? ⟨bx, 0, none⟩ = some (.pointer (some ⟨T, 0, none⟩)) ∧ W.cell? ⟨T, 0, none⟩ = some st ∧ W.cell? ⟨w.heap.size, 0, none⟩ = some .nilIface ∧ W.cell? ⟨w.heap.size, 1, none⟩ = some (.string e0) ∧ W.cell? ⟨w.heap.size + 1, 0, none⟩ = some (.string k) ∧ W.cell? ⟨w.heap.size + 1, 1, none⟩ = some (.string e0)) (first | go_keep | (simp [*])) ((first
        | (go_at_call 44; refine (HOf.out _ (by first | exact (Below.refl _ _).drew | exact Below.refl _ _)).mono ?_; rintro e w2 ⟨g, rfl, hnu, hb2⟩; (have HN2 := hide hnu); (have HB2 := hide hb2); (obtain ⟨d0, d1, d2, d3, d4, d5⟩ := (HKp.out w2 hb2).cells); unfold ptr at d0; clear hnu hb2)
        | (go_at_call 43; refine (HDr.out _ g HB2.out HN2.out).mono ?_; rintro e w4 ⟨t4, b4, rfl, hn4, hs4⟩; (have HX4 := hide (And.intro hn4 hs4)); (obtain ⟨j0, j1, j2, j3, j4, j5⟩ := hs4.cells); (obtain ⟨z0, z1, z2, z3⟩ := hs4.out); unfold ptr at j0; clear hn4 hs4)))
      all_goals
        have hfin := HX4.out.2.fin HOK.out HX4.out.1
        have r0 := cell_of_row _ _ 0 _ _ (0, 0) hfin.2
        have r1 := cell_of_row _ _ 1 _ _ (0, 0) hfin.2
        have HFin := hide hfin.1
        clear hfin
        go_wp2
        refine bodyPost_ret (v := .tuple #[.agg #[.iface t4 (.pointer (some ⟨b4, 0, none⟩)), .string e0], .int .i64 0]) (by first | (simp [results, Tryz.results42, go_sem, r0, r1]; done) | (simp [results, Tryz.results42, go_sem]; done)) rfl ?_
        rw [HD.out]
        first | exact HFin.out | exact HFin.out.drew
    · unfold ptr at *
      go_enter Tryz.func42, Tryz.ntmps42
      go_wp2_with fail
      first | rw [hW0] | skip
      clear hW0
      go_region_held3 (fun W => W.cell? ⟨bx, 0, none⟩ = some (.pointer (some ⟨T, 0, none⟩)) ∧ W.cell? ⟨T, 0, none⟩ = some st ∧ W.cell? ⟨w.heap.size, 0, none⟩ = some (.iface t (.pointer (some ⟨b, 0, none⟩))) ∧ W.cell? ⟨w.heap.size, 1, none⟩ = some (.string e0) ∧ W.cell? ⟨w.heap.size + 1, 0, none⟩ = some (.string k) ∧ W.cell? ⟨w.heap.size + 1, 1, none⟩ = some (.string e0)) (first | go_keep | (simp [*])) ((first
        | (go_at_call 44; refine (HOf.out _ (by first | exact (Below.refl _ _).drew | exact Below.refl _ _)).mono ?_; rintro e w2 ⟨g, rfl, hnu, hb2⟩; (have HN2 := hide hnu); (have HB2 := hide hb2); (obtain ⟨d0, d1, d2, d3, d4, d5⟩ := (HKp.out w2 hb2).cells); unfold ptr at d0; clear hnu hb2)
        | (go_at_call 43; refine (HDr.out _ g HB2.out HN2.out).mono ?_; rintro e w4 ⟨t4, b4, rfl, hn4, hs4⟩; (have HX4 := hide (And.intro hn4 hs4)); (obtain ⟨j0, j1, j2, j3, j4, j5⟩ := hs4.cells); (obtain ⟨z0, z1, z2, z3⟩ := hs4.out); unfold ptr at j0; clear hn4 hs4)))
      all_goals
        have hfin := HX4.out.2.fin HOK.out HX4.out.1
        have r0 := cell_of_row _ _ 0 _ _ (0, 0) hfin.2
        have r1 := cell_of_row _ _ 1 _ _ (0, 0) hfin.2
        have HFin := hide hfin.1
        clear hfin
        go_wp2
        refine bodyPost_ret (v := .tuple #[.agg #[.iface t4 (.pointer (some ⟨b4, 0, none⟩)), .string e0], .int .i64 0]) (by first | (simp [results, Tryz.results42, go_sem, r0, r1]; done) | (simp [results, Tryz.results42, go_sem]; done)) rfl ?_
        rw [HD.out]
        first | exact HFin.out | exact HFin.out.drew
theorem putStep (Hk : Nd → ByteArray → Prop) (hnn : ∀ n g, Hk n g → n ≠ .nil) (ok : Nat → Prop) (T bx : Nat) (st : Value) (n : Nd) (u : Value) (k v : ByteArray) (w : World) (hok : ∀ k, ok k → k < w.heap.size) (hn : NdAt Hk ok w n u) (hO : TOk n) (hk : k.size ≤ 64) (hv : v.size ≤ 400)
    (hbx : w.heap[bx]? = some (.cells #[ptr T] 104 (0, 0))) (hT : w.cell? ⟨T, 0, none⟩ = some st) :
    Calls Tryz.prog 42 #[.agg #[u, .string e0], .agg #[.string k, .string v], ptr bx] w fun e w' => RefPost Hk ok (n.set (pathN k) v) w e w' := by
  by_cases h : v.size = 0
  · obtain rfl := e0_of h
    exact putStep_del Hk ok T bx st n u k w hok hn hO hk hbx hT
  · exact putStep_val Hk hnn ok T bx st n u k v w hok hn hO hk hv h hbx hT
/-- the boxes of a step of Delete -/
structure DBox (w W : World) (T bx : Nat) (st u : Value) : Prop where
  bel : Below w.heap.size w W
  size : w.heap.size + 2 ≤ W.heap.size
  tree : W.heap[bx]? = some (.cells #[ptr T] 104 (0, 0))
  store : W.cell? ⟨T, 0, none⟩ = some st
  box : RBox w W u
theorem DBox.start {w : World} {T bx : Nat} {st : Value} (u : Value) (hbx : w.heap[bx]? = some (.cells #[ptr T] 104 (0, 0))) (hT : w.cell? ⟨T, 0, none⟩ = some st) :
    DBox w ((w.alloc (.cells #[u, .string e0] 65)).alloc (.cells #[.nilIface, .string e0] 65)) T bx st u :=
  ⟨below_alloc2 _ _ _, by simp, ((below_alloc2 w _ _).block bx (Array.getElem?_eq_some_iff.1 hbx).1).trans hbx, ((below_alloc2 w _ _).cell (p := ⟨T, 0, none⟩) (World.block_lt_of_cell? w _ hT)).trans hT, RBox.start w u⟩
theorem DBox.keep {w W W' : World} {T bx : Nat} {st u : Value} (h : DBox w W T bx st u) (hb : Below W.heap.size W W') : DBox w W' T bx st u :=
  ⟨h.bel.trans (hb.mono h.bel.size), Nat.le_trans h.size hb.size, (hb.block _ (Array.getElem?_eq_some_iff.1 h.tree).1).trans h.tree, (hb.cell (p := ⟨T, 0, none⟩) (World.block_lt_of_cell? W _ h.store)).trans h.store, h.box.keep hb⟩
theorem DBox.cells {w W : World} {T bx : Nat} {st u : Value} (h : DBox w W T bx st u) : W.cell? ⟨bx, 0, none⟩ = some (ptr T) ∧ W.cell? ⟨T, 0, none⟩ = some st ∧ W.cell? ⟨w.heap.size, 0, none⟩ = some u ∧ W.cell? ⟨w.heap.size, 1, none⟩ = some (.string e0) :=
  ⟨cell_of_row _ _ 0 _ _ (0, 0) h.tree, h.store, h.box.cells.1, h.box.cells.2.1⟩
set_option maxHeartbeats 8000000 in
set_option maxRecDepth 20000 in
theorem delStep (Hk : Nd → ByteArray → Prop) (ok : Nat → Prop) (T bx : Nat) (st : Value) (n : Nd) (u : Value) (k : ByteArray) (w : World) (hok : ∀ k, ok k → k < w.heap.size) (hn : NdAt Hk ok w n u) (hO : TOk n) (hk : k.size ≤ 64)
    (hbx : w.heap[bx]? = some (.cells #[ptr T] 104 (0, 0))) (hT : w.cell? ⟨T, 0, none⟩ = some st) :
    Calls Tryz.prog 120 #[.agg #[u, .string e0], .string k, ptr bx] w fun e w' => RefPost Hk ok (n.drop (pathN k)) w e w' := by
  have HS0 := hide (DBox.start u hbx hT)
  have hnd := hn.isNd
  obtain ⟨W0, hW0⟩ : ∃ W0, ((w.alloc (.cells #[u, .string e0] 65)).alloc (.cells #[.nilIface, .string e0] 65)) = W0 := ⟨_, rfl⟩
  have HOf : Hid (∀ W, Below W0.heap.size W0 W → Calls Tryz.prog 44 #[.string k] W fun e w' => ∃ g, e = .returned (.slice (some ⟨g, 0, none⟩) (pathN k).length (2 * k.size)) ∧ Nums w' (some ⟨g, 0, none⟩) (pathN k) ∧ Below W0.heap.size W0 w') := fun W hW => by
    refine (of_nums k W (by omega)).mono ?_
    rintro e w' ⟨g, rfl, h1, _, h2⟩
    exact ⟨g, rfl, h1, hW.trans (h2.mono hW.size)⟩
  rw [hW0] at HS0
  have HDr0 : Hid (∀ W g, Below W0.heap.size W0 W → Nums W (some ⟨g, 0, none⟩) (pathN k) → Calls Tryz.prog 43 #[st, .agg #[u, .string e0], .slice (some ⟨g, 0, none⟩) (pathN k).length (2 * k.size)] W fun e w' => ∃ v', e = .returned (.tuple #[.agg #[v', .string e0], .int .i64 0]) ∧ NdAt Hk (fun k => ok k ∨ w.heap.size + 2 ≤ k) w' (n.drop (pathN k)) v' ∧ DBox w w' T bx st u) := fun W g hW hnu => by
    have hbw := HS0.out.bel.trans (hW.mono HS0.out.bel.size)
    refine (drop_any Hk ok st n u g 0 (2 * k.size) (pathN k) W (fun k hk => Nat.lt_of_lt_of_le (hok k hk) hbw.size) (hn.keep hbw) hO hnu (by rw [pathN_length]; exact Nat.le_refl _) (by rw [pathN_length]; omega) (pathN_lt k)).mono ?_
    rintro e w' ⟨v', rfl, h1, h2⟩
    exact ⟨v', rfl, NdAt.mono (fun k hk => hk.imp id (fun h => Nat.le_trans HS0.out.size (Nat.le_trans hW.size h))) _ _ h1, (HS0.out.keep hW).keep h2⟩
  have HKp : Hid (∀ W, Below W0.heap.size W0 W → DBox w W T bx st u) := fun W hW => HS0.out.keep hW
  have HOK := hide hok
  have l1 := (Array.getElem?_eq_some_iff.1 hbx).1
  have l2 : T < w.heap.size := World.block_lt_of_cell? w _ hT
  have q1 : ¬ bx = w.heap.size + 1 := by omega
  have q2 : ¬ w.heap.size + 1 = bx := by omega
  have q3 : ¬ T = w.heap.size + 1 := by omega
  have q4 : ¬ w.heap.size + 1 = T := by omega
  have q5 : ¬ w.heap.size = w.heap.size + 1 := by omega
  have q6 : ¬ w.heap.size + 1 = w.heap.size := by omega
  clear hn hok hO hbx hT l1 l2
  obtain ⟨c0, c1, c2, c3⟩ := HS0.out.cells
  by_cases hz : n.drop (pathN k) = .nil
  · have HDr : Hid (∀ W g, Below W0.heap.size W0 W → Nums W (some ⟨g, 0, none⟩) (pathN k) → Calls Tryz.prog 43 #[st, .agg #[u, .string e0], .slice (some ⟨g, 0, none⟩) (pathN k).length (2 * k.size)] W fun e w' => e = .returned (.tuple #[.agg #[.nilIface, .string e0], .int .i64 0]) ∧ NdAt Hk (fun k => ok k ∨ w.heap.size + 2 ≤ k) w' (n.drop (pathN k)) .nilIface ∧ DBox w w' T bx st u) := fun W g hW hnu => by
      refine (HDr0.out W g hW hnu).mono ?_
      rintro e w' ⟨v', rfl, h1, h2⟩
      have h3 := h1
      rw [hz] at h3
      obtain rfl : v' = .nilIface := h3
      exact ⟨rfl, h1, h2⟩
    clear HDr0 hz
    rcases hnd with rfl | ⟨t, b, rfl⟩
    · unfold ptr at *
      go_enter Tryz.func120, Tryz.ntmps120
      go_wp2_with fail
      first | rw [hW0] | skip
      clear hW0
      go_region_held3 (fun W => W.cell? ⟨bx, 0, none⟩ = some (.pointer (some ⟨T, 0, none⟩)) ∧ W.cell? ⟨T, 0, none⟩ = some st ∧ W.cell? ⟨w.heap.size, 0, none⟩ = some .nilIface ∧ W.cell? ⟨w.heap.size, 1, none⟩ = some (.string e0)) (first | go_keep | (simp [*])) ((first
        | (go_at_call 44; refine (HOf.out _ (by first | exact (Below.refl _ _).drew | exact Below.refl _ _)).mono ?_; rintro e w2 ⟨g, rfl, hnu, hb2⟩; (have HN2 := hide hnu); (have HB2 := hide hb2); (obtain ⟨d0, d1, d2, d3⟩ := (HKp.out w2 hb2).cells); unfold ptr at d0; clear hnu hb2)
        | (go_at_call 43; refine (HDr.out _ g HB2.out HN2.out).mono ?_; rintro e w4 ⟨rfl, hn4, hs4⟩; (have HX4 := hide (And.intro hn4 hs4)); (obtain ⟨j0, j1, j2, j3⟩ := hs4.cells); (obtain ⟨-, -, z0, z1, z2, z3⟩ := hs4.box.cells); unfold ptr at j0; clear hn4 hs4)))
      all_goals
        have hfin := HX4.out.2.box.fin HOK.out HX4.out.1
        have r0 := cell_of_row _ _ 0 _ _ (0, 0) hfin.2
        have r1 := cell_of_row _ _ 1 _ _ (0, 0) hfin.2
        have HFin := hide hfin.1
        clear hfin
        go_wp2
        refine bodyPost_ret (v := .tuple #[.agg #[.nilIface, .string e0], .int .i64 0]) (by first | (simp [results, Tryz.results120, go_sem, r0, r1]; done) | (simp [results, Tryz.results120, go_sem]; done)) rfl ?_
        first | exact HFin.out | exact HFin.out.drew
    · unfold ptr at *
      go_enter Tryz.func120, Tryz.ntmps120
      go_wp2_with fail
      first | rw [hW0] | skip
      clear hW0
      go_region_held3 (fun W => W.cell? ⟨bx, 0, none⟩ = some (.pointer (some ⟨T, 0, none⟩)) ∧ W.cell? ⟨T, 0, none⟩ = some st ∧ W.cell? ⟨w.heap.size, 0, none⟩ = some (.iface t (.pointer (some ⟨b, 0, none⟩))) ∧ W.cell? ⟨w.heap.size, 1, none⟩ = some (.string e0)) (first | go_keep | (simp [*])) ((first
        | (go_at_call 44; refine (HOf.out _ (by first | exact (Below.refl _ _).drew | exact Below.refl _ _)).mono ?_; rintro e w2 ⟨g, rfl, hnu, hb2⟩; (have HN2 := hide hnu); (have HB2 := hide hb2); (obtain ⟨d0, d1, d2, d3⟩ := (HKp.out w2 hb2).cells); unfold ptr at d0; clear hnu hb2)
        | (go_at_call 43; refine (HDr.out _ g HB2.out HN2.out).mono ?_; rintro e w4 ⟨rfl, hn4, hs4⟩; (have HX4 := hide (And.intro hn4 hs4)); (obtain ⟨j0, j1, j2, j3⟩ := hs4.cells); (obtain ⟨-, -, z0, z1, z2, z3⟩ := hs4.box.cells); unfold ptr at j0; clear hn4 hs4)))
      all_goals
        have hfin := HX4.out.2.box.fin HOK.out HX4.out.1
        have r0 := cell_of_row _ _ 0 _ _ (0, 0) hfin.2
        have r1 := cell_of_row _ _ 1 _ _ (0, 0) hfin.2
        have HFin := hide hfin.1
        clear hfin
        go_wp2
        refine bodyPost_ret (v := .tuple #[.agg #[.nilIface, .string e0], .int .i64 0]) (by first | (simp [results, Tryz.results120, go_sem, r0, r1]; done) | (simp [results, Tryz.results120, go_sem]; done)) rfl ?_
        first | exact HFin.out | exact HFin.out.drew
  · have HDr : Hid (∀ W g, Below W0.heap.size W0 W → Nums W (some ⟨g, 0, none⟩) (pathN k) → Calls Tryz.prog 43 #[st, .agg #[u, .string e0], .slice (some ⟨g, 0, none⟩) (pathN k).length (2 * k.size)] W fun e w' => ∃ t4 b4, e = .returned (.tuple #[.agg #[.iface t4 (ptr b4), .string e0], .int .i64 0]) ∧ NdAt Hk (fun k => ok k ∨ w.heap.size + 2 ≤ k) w' (n.drop (pathN k)) (.iface t4 (ptr b4)) ∧ DBox w w' T bx st u) := fun W g hW hnu => by
      refine (HDr0.out W g hW hnu).mono ?_
      rintro e w' ⟨v', rfl, h1, h2⟩
      obtain ⟨t4, b4, rfl⟩ := h1.some hz
      exact ⟨t4, b4, rfl, h1, h2⟩
    clear HDr0 hz
    rcases hnd with rfl | ⟨t, b, rfl⟩
    · unfold ptr at *
      go_enter Tryz.func120, Tryz.ntmps120
      go_wp2_with fail
      first | rw [hW0] | skip
      clear hW0
      go_region_held3 (fun W => W.cell? ⟨bx, 0, none⟩ = some (.pointer (some ⟨T, 0, none⟩)) ∧ W.cell? ⟨T, 0, none⟩ = some st ∧ W.cell? ⟨w.heap.size, 0, none⟩ = some .nilIface ∧ W.cell? ⟨w.heap.size, 1, none⟩ = some (.string e0)) (first | go_keep | (simp [*])) ((first
        | (go_at_call 44; refine (HOf.out _ (by first | exact (Below.refl _ _).drew | exact Below.refl _ _)).mono ?_; rintro e w2 ⟨g, rfl, hnu, hb2⟩; (have HN2 := hide hnu); (have HB2 := hide hb2); (obtain ⟨d0, d1, d2, d3⟩ := (HKp.out w2 hb2).cells); unfold ptr at d0; clear hnu hb2)
        | (go_at_call 43; refine (HDr.out _ g HB2.out HN2.out).mono ?_; rintro e w4 ⟨t4, b4, rfl, hn4, hs4⟩; (have HX4 := hide (And.intro hn4 hs4)); (obtain ⟨j0, j1, j2, j3⟩ := hs4.cells); (obtain ⟨-, -, z0, z1, z2, z3⟩ := hs4.box.cells); unfold ptr at j0; clear hn4 hs4)))
      all_goals
        have hfin := HX4.out.2.box.fin HOK.out HX4.out.1
        have r0 := cell_of_row _ _ 0 _ _ (0, 0) hfin.2
        have r1 := cell_of_row _ _ 1 _ _ (0, 0) hfin.2
        have HFin := hide hfin.1
        clear hfin
        go_wp2
        refine bodyPost_ret (v := .tuple #[.agg #[.iface t4 (.pointer (some ⟨b4, 0, none⟩)), .string e0], .int .i64 0]) (by first | (simp [results, Tryz.results120, go_sem, r0, r1]; done) | (simp [results, Tryz.results120, go_sem]; done)) rfl ?_
        first | exact HFin.out | exact HFin.out.drew
    · unfold ptr at *
      go_enter Tryz.func120, Tryz.ntmps120
      go_wp2_with fail
      first | rw [hW0] | skip
      clear hW0
      go_region_held3 (fun W => W.cell? ⟨bx, 0, none⟩ = some (.pointer (some ⟨T, 0, none⟩)) ∧ W.cell? ⟨T, 0, none⟩ = some st ∧ W.cell? ⟨w.heap.size, 0, none⟩ = some (.iface t (.pointer (some ⟨b, 0, none⟩))) ∧ W.cell? ⟨w.heap.size, 1, none⟩ = some (.string e0)) (first | go_keep | (simp [*])) ((first
        | (go_at_call 44; refine (HOf.out _ (by first | exact (Below.refl _ _).drew | exact Below.refl _ _)).mono ?_; rintro e w2 ⟨g, rfl, hnu, hb2⟩; (have HN2 := hide hnu); (have HB2 := hide hb2); (obtain ⟨d0, d1, d2, d3⟩ := (HKp.out w2 hb2).cells); unfold ptr at d0; clear hnu hb2)
        | (go_at_call 43; refine (HDr.out _ g HB2.out HN2.out).mono ?_; rintro e w4 ⟨t4, b4, rfl, hn4, hs4⟩; (have HX4 := hide (And.intro hn4 hs4)); (obtain ⟨j0, j1, j2, j3⟩ := hs4.cells); (obtain ⟨-, -, z0, z1, z2, z3⟩ := hs4.box.cells); unfold ptr at j0; clear hn4 hs4)))
      all_goals
        have hfin := HX4.out.2.box.fin HOK.out HX4.out.1
        have r0 := cell_of_row _ _ 0 _ _ (0, 0) hfin.2
        have r1 := cell_of_row _ _ 1 _ _ (0, 0) hfin.2
        have HFin := hide hfin.1
        clear hfin
        go_wp2
        refine bodyPost_ret (v := .tuple #[.agg #[.iface t4 (.pointer (some ⟨b4, 0, none⟩)), .string e0], .int .i64 0]) (by first | (simp [results, Tryz.results120, go_sem, r0, r1]; done) | (simp [results, Tryz.results120, go_sem]; done)) rfl ?_
        first | exact HFin.out | exact HFin.out.drew
end Go.Proofs.YthdjmldddjljfaaGreatDoor
namespace Go.Proofs.YthdjmldddjljfaaGreatDoor
open Go.RowKit
attribute [local go_sem ↓] Go.wp_at_zero Go.wp_at_succ

abbrev Pr := ByteArray × ByteArray
def pr0 : Pr := (e0, e0)
/-- pairs in memory -/
def Prs (w : World) (ao : Option Addr) (ps : List Pr) : Prop := ∀ i, i < ps.length → ∃ g o, ao = some ⟨g, o, none⟩ ∧ w.cell? ⟨g, o + i * 2, none⟩ = some (.string (ps.getD i pr0).1) ∧ w.cell? ⟨g, o + i * 2 + 1, none⟩ = some (.string (ps.getD i pr0).2)
theorem Prs.keep {w w' : World} {ao : Option Addr} {ps : List Pr} (h : Prs w ao ps) (hb : Below w.heap.size w w') : Prs w' ao ps := fun i hi => by
  obtain ⟨g, o, e, h1, h2⟩ := h i hi
  exact ⟨g, o, e, (hb.cell (p := ⟨g, o + i * 2, none⟩) (World.block_lt_of_cell? w _ h1)).trans h1, (hb.cell (p := ⟨g, o + i * 2 + 1, none⟩) (World.block_lt_of_cell? w _ h2)).trans h2⟩
/-- keys in memory -/
def Kys (w : World) (ao : Option Addr) (ks : List ByteArray) : Prop := ∀ i, i < ks.length → ∃ g o, ao = some ⟨g, o, none⟩ ∧ w.cell? ⟨g, o + i, none⟩ = some (.string (ks.getD i e0))
theorem Kys.keep {w w' : World} {ao : Option Addr} {ks : List ByteArray} (h : Kys w ao ks) (hb : Below w.heap.size w w') : Kys w' ao ks := fun i hi => by
  obtain ⟨g, o, e, h1⟩ := h i hi
  exact ⟨g, o, e, (hb.cell (p := ⟨g, o + i, none⟩) (World.block_lt_of_cell? w _ h1)).trans h1⟩
/-- what pairs make of a tree -/
def setAll (n : Nd) (ps : List Pr) : Nd := ps.foldl (fun n p => n.set (pathN p.1) p.2) n
def dropAll (n : Nd) (ks : List ByteArray) : Nd := ks.foldl (fun n k => n.drop (pathN k)) n
theorem setAll_snoc (n : Nd) (ps : List Pr) (i : Nat) (h : i < ps.length) : setAll n (ps.take (i + 1)) = (setAll n (ps.take i)).set (pathN (ps.getD i pr0).1) (ps.getD i pr0).2 := by
  unfold setAll
  rw [List.take_succ_eq_append_getElem h, List.foldl_append, List.getD_eq_getElem?_getD, List.getElem?_eq_getElem h]; rfl
theorem dropAll_snoc (n : Nd) (ks : List ByteArray) (i : Nat) (h : i < ks.length) : dropAll n (ks.take (i + 1)) = (dropAll n (ks.take i)).drop (pathN (ks.getD i e0)) := by
  unfold dropAll
  rw [List.take_succ_eq_append_getElem h, List.foldl_append, List.getD_eq_getElem?_getD, List.getElem?_eq_getElem h]; rfl
theorem TOk.drop {n : Nd} (h : TOk n) {p : List Nat} (hp : ∀ x ∈ p, x < 16) (hl : p.length ≤ 128) : TOk (n.drop p) := by
  have := h.set hp hl (v := e0) (by show 0 ≤ 400; omega)
  unfold Nd.set at this
  rwa [if_pos (show e0.size = 0 from rfl)] at this
theorem getD_in {α : Type} {l : List α} {i : Nat} {d : α} (h : i < l.length) : l.getD i d ∈ l := by
  rw [List.getD_eq_getElem?_getD, List.getElem?_eq_getElem h]; exact List.getElem_mem h
theorem TOk.setAll {n : Nd} (h : TOk n) : ∀ (ps : List Pr), (∀ p ∈ ps, p.1.size ≤ 64 ∧ p.2.size ≤ 400) → TOk (setAll n ps)
  | [], _ => h
  | p :: ps, hp => by
    have h1 := hp p (List.mem_cons_self ..)
    exact TOk.setAll (h.set (pathN_lt _) (by rw [pathN_length]; omega) h1.2) ps (fun q hq => hp q (List.mem_cons_of_mem _ hq))
theorem TOk.dropAll {n : Nd} (h : TOk n) : ∀ (ks : List ByteArray), (∀ k ∈ ks, k.size ≤ 64) → TOk (dropAll n ks)
  | [], _ => h
  | k :: ks, hp => by
    have h1 := hp k (List.mem_cons_self ..)
    exact TOk.dropAll (h.drop (pathN_lt _) (by rw [pathN_length]; omega)) ks (fun q hq => hp q (List.mem_cons_of_mem _ hq))

/-- a tree in memory: its store, its topmost node -/
structure TreeAt (Hk : Nd → ByteArray → Prop) (ok : Nat → Prop) (w : World) (T : Nat) (st : Value) (n : Nd) : Prop where
  held : ∃ u, w.heap[T]? = some (.cells #[st, u, .string e0] 71 (0, 0)) ∧ NdAt Hk ok w n u
  blk : ∀ k, ok k → k < w.heap.size ∧ k ≠ T
theorem TreeAt.lt {Hk : Nd → ByteArray → Prop} {ok : Nat → Prop} {w : World} {T : Nat} {st : Value} {n : Nd} (h : TreeAt Hk ok w T st n) : T < w.heap.size := by
  obtain ⟨u, h1, _⟩ := h.held
  exact (Array.getElem?_eq_some_iff.1 h1).1
theorem TreeAt.keep {Hk : Nd → ByteArray → Prop} {ok : Nat → Prop} {w w' : World} {T : Nat} {st : Value} {n : Nd} (h : TreeAt Hk ok w T st n) (hb : Below w.heap.size w w') : TreeAt Hk ok w' T st n := by
  have hl := h.lt
  obtain ⟨u, h1, h2⟩ := h.held
  exact ⟨⟨u, (hb.block T hl).trans h1, h2.keep hb⟩, fun k hk => ⟨Nat.lt_of_lt_of_le (h.blk k hk).1 hb.size, (h.blk k hk).2⟩⟩
theorem TreeAt.mono {Hk : Nd → ByteArray → Prop} {ok ok' : Nat → Prop} {w : World} {T : Nat} {st : Value} {n : Nd} (h : TreeAt Hk ok w T st n) (hk : ∀ k, ok k → ok' k) (hb : ∀ k, ok' k → k < w.heap.size ∧ k ≠ T) : TreeAt Hk ok' w T st n := by
  obtain ⟨u, h1, h2⟩ := h.held
  exact ⟨⟨u, h1, NdAt.mono hk _ _ h2⟩, hb⟩
/-- nothing but the tree's own block has turned -/
def Only (T : Nat) (w w' : World) : Prop := w.grownBy w' (some T)
/-- the blocks that a call may add to a tree -/
def okTo (ok : Nat → Prop) (w w' : World) : Nat → Prop := fun k => ok k ∨ (w.heap.size ≤ k ∧ k < w'.heap.size)
theorem NdAt.both {Hk : Nd → ByteArray → Prop} {ok ok' : Nat → Prop} {w : World} : ∀ (n : Nd) (v : Value), NdAt Hk ok w n v → NdAt Hk ok' w n v → NdAt Hk (fun k => ok k ∧ ok' k) w n v
  | .nil, _, h, _ => h
  | .leaf _ _, _, ⟨b, ao, cap, h1, o1, o2, h2, h3, h4⟩, h' => by
    obtain ⟨b', ao', cap', h1', o1', o2', h2', _⟩ := h'
    obtain rfl : b = b' := by rw [h1] at h1'; simpa [ptr] using h1'
    rw [h2] at h2'
    simp only [Option.some.injEq, Obj.cells.injEq] at h2'
    obtain ⟨rfl, _⟩ : ao = ao' ∧ cap = cap' := by simpa using h2'.1
    exact ⟨b, ao, cap, h1, ⟨o1, o1'⟩, fun a e hn => ⟨o2 a e hn, o2' a e hn⟩, h2, h3, h4⟩
  | .ext _ n, _, ⟨b, ao, cap, u, h, h1, o1, o2, h2, h3, h4, h5, h6, h7⟩, h' => by
    obtain ⟨b', ao', cap', u', g', h1', o1', o2', h2', _, _, _, h6', _⟩ := h'
    obtain rfl : b = b' := by rw [h1] at h1'; simpa [ptr] using h1'
    rw [h2] at h2'
    simp only [Option.some.injEq, Obj.cells.injEq] at h2'
    obtain ⟨⟨rfl, _⟩, rfl, _⟩ : (ao = ao' ∧ cap = cap') ∧ u = u' ∧ h = g' := by simpa using h2'.1
    exact ⟨b, ao, cap, u, h, h1, ⟨o1, o1'⟩, fun a e hn => ⟨o2 a e hn, o2' a e hn⟩, h2, h3, h4, h5, NdAt.both n u h6 h6', h7⟩
  | .br c _, _, ⟨b, us, hs, h1, o1, h2, h3⟩, h' => by
    obtain ⟨b', us', hs', h1', o1', h2', h3'⟩ := h'
    obtain rfl : b = b' := by rw [h1] at h1'; simpa [ptr] using h1'
    refine ⟨b, us, hs, h1, ⟨o1, o1'⟩, h2, fun i hi => ⟨NdAt.both (c i) (us i) (h3 i hi).1 ?_, (h3 i hi).2⟩⟩
    have e1 := (br_ref h2 i hi).1
    have e2 := (br_ref h2' i hi).1
    rw [e1] at e2
    have e3 : us i = us' i := by simpa using e2
    rw [e3]
    exact (h3' i hi).1
end Go.Proofs.YthdjmldddjljfaaGreatDoor
