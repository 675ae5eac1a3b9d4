/-
  OUR OWN: the walk of the law Encodes.
-/
import Derived.Test.YtoafiieciiijbaaEncM
import Derived.Laws.CopyOwn
namespace Go.Proofs.Ytoafiieciiijbaa
open Go.RowKit
attribute [local go_sem ↓] Go.wp_at_zero Go.wp_at_succ

theorem IPrts.src {w : World} {b off : Nat} {ps : List IPrt} (h : IPrts w (some ⟨b, off, none⟩) ps) : ∀ j v, (icells ps)[j]? = some v → w.cell? ((⟨b, off, none⟩ : Addr).add j) = some v := by
  intro j v hj
  have hl := (List.getElem?_eq_some_iff.1 hj).1
  rw [icells_length] at hl
  have hk : j / 3 < ps.length := by omega
  obtain ⟨b', off', hb, c0, c1, c2⟩ := h (j / 3) hk
  obtain ⟨rfl, rfl⟩ : b = b' ∧ off = off' := by simpa using hb
  obtain ⟨n0, n1, n2⟩ := icells_nth ps (j / 3) hk
  rw [addr_add]
  have hm : j % 3 = 0 ∨ j % 3 = 1 ∨ j % 3 = 2 := by omega
  rcases hm with hm | hm | hm
  · have e : j = j / 3 * 3 := by omega
    generalize j / 3 = k at *
    subst e
    rw [n0] at hj
    rw [← hj]; exact c0
  · have e : j = j / 3 * 3 + 1 := by omega
    generalize j / 3 = k at *
    subst e
    rw [n1] at hj
    rw [← hj, ← Nat.add_assoc]; exact c1
  · have e : j = j / 3 * 3 + 2 := by omega
    generalize j / 3 = k at *
    subst e
    rw [n2] at hj
    rw [← hj, ← Nat.add_assoc]; exact c2
theorem icells_one (ps : List IPrt) : ∀ v ∈ icells ps, v.oneCell' = true := by
  intro v hv
  simp only [icells, List.mem_flatMap] at hv
  obtain ⟨p, _, hp⟩ := hv
  simp only [icell, List.mem_cons, List.not_mem_nil, or_false] at hp
  rcases hp with rfl | rfl | rfl <;> rfl

theorem run_copy_row3 {P : Program} (w : World) (dT sT ty elem : TypeId) (g o dLen dCap : Nat) (a : Addr) (sLen sCap : Nat) (cur : Array Value) (t : TypeId) (cs : List Value)
    (hu : P.underlying dT = some (.slice elem)) (hs : (P.info? elem).map (·.size) = some 3)
    (hg : w.heap[g]? = some (.cells cur t (0, 0))) (hn : cs.length = Nat.min sLen dLen * 3)
    (hsrc : ∀ j v, cs[j]? = some v → w.cell? (a.add j) = some v) (hfit : o + cs.length ≤ cur.size) (h1 : ∀ v ∈ cs, v.oneCell' = true) :
    (Builtin.copy_ #[dT, sT] ty #[.slice (some ⟨g, o, none⟩) dLen dCap, .slice (some a) sLen sCap]).run P w =
      .ok (goInt (Nat.min sLen dLen)) (w.setRow g (cur.toList.take o ++ cs ++ cur.toList.drop (o + cs.length)).toArray) := by
  have hl := run_loadCells_list (P := P) w a cs hsrc
  have hst := run_storeCells_at P g o t cs 0 cur w hg (by simpa using hfit) h1
  cases hq : P.info? elem with
  | none => simp [hq] at hs
  | some i =>
    have hi : i.size = 3 := by simpa [hq] using hs
    simp [Builtin.copy_, run_underlying hu, Builtin.lenOf, Builtin.firstCells, sizeOf, typeInfo, hq, hi, ← hn, hl, hst]
theorem run_copy_none3 {P : Program} (w : World) (dT sT ty elem : TypeId) (d a : Option Addr) (dLen dCap sLen sCap : Nat) (hu : P.underlying dT = some (.slice elem)) (hs : (P.info? elem).map (·.size) = some 3) (hn : Nat.min sLen dLen = 0) :
    (Builtin.copy_ #[dT, sT] ty #[.slice d dLen dCap, .slice a sLen sCap]).run P w = .ok (goInt 0) w := by
  cases hq : P.info? elem with
  | none => simp [hq] at hs
  | some i =>
    have hl : ∀ (x : Addr), (loadCells x 0).run P w = .ok #[] w := fun x => by simpa using run_loadCells_list (P := P) w x [] (by simp)
    cases d <;> cases a <;> simp [Builtin.copy_, run_underlying hu, Builtin.lenOf, Builtin.firstCells, sizeOf, typeInfo, hq, hn, storeCells, hl]
theorem size24 : (Try.prog.info? 24).map (·.size) = some 3 := by kernel_rfl
theorem make_ps (n : Nat) (h : n ≤ 4398046511106) (w : World) : (Instr.makeSlice 22 (.int .i64 (n : Int)) (.int .i64 (n : Int))).run Try.prog w =
    .ok (.slice (some ⟨w.heap.size, 0, none⟩) n n) (w.alloc (.cells (madeCells #[.bool false, .int .i64 0, .string ⟨#[]⟩] (n * 3)) 24)) := by
  obtain ⟨i0, hi, hz0, hz1, hz2⟩ := info_parts info24
  have h := run_make (P := Try.prog) w 22 24 i0 (.agg #[.bool false, .int .i64 0, .string ⟨#[]⟩]) Try.underlying22 hi hz0 .i64 .i64 (n : Int) (n : Int) (by omega) (by omega) (by rw [hz2]; omega) (by omega)
  simpa [hz1, Value.cells] using h
theorem copy_ps (w : World) (ao : Option Addr) (cap N : Nat) (ps : List IPrt) (M : Array Value) (hN : N = ps.length + 2) (hM : M.size = N * 3) (hc : IPrts w ao ps) :
    ∃ w1 rest, (Builtin.copy_ #[22, 22] 3 #[.slice (some ⟨w.heap.size, 0, none⟩) N N, .slice ao ps.length cap]).run Try.prog (w.alloc (.cells M 24)) = .ok (.int .i64 (ps.length : Int)) w1 ∧
      w1.heap[w.heap.size]? = some (.cells (icells ps ++ rest).toArray 24 (0, 0)) ∧ rest.length = 6 ∧ Below w.heap.size w w1 ∧ w1.heap.size = w.heap.size + 1 := by
  have hg := heap_alloc_new w (.cells M 24)
  have hml : Nat.min ps.length N = ps.length := by rw [hN]; exact Nat.min_eq_left (by omega)
  by_cases h0 : 0 < ps.length
  · have hc2 := hc.keep (below_alloc w (.cells M 24)) (Nat.le_refl _)
    obtain ⟨b, off, rfl, _⟩ := hc2 0 h0
    have hr := run_copy_row3 (P := Try.prog) (w.alloc (.cells M 24)) 22 22 3 24 w.heap.size 0 N N ⟨b, off, none⟩ ps.length cap M 24 (icells ps) Try.underlying22 size24 hg (by rw [hml, icells_length]) hc2.src (by rw [icells_length]; omega) (icells_one ps)
    rw [hml] at hr
    refine ⟨_, M.toList.drop (ps.length * 3), hr, ?_, by rw [List.length_drop, Array.length_toList]; omega, below_setRow (below_alloc w _) (Nat.le_refl _) _, by simp⟩
    rw [setRow_heap _ _ _ _ _ _ hg]
    simp [icells_length]
  · obtain rfl : ps = [] := List.length_eq_zero_iff.1 (by omega)
    have hr := run_copy_none3 (P := Try.prog) (w.alloc (.cells M 24)) 22 22 3 24 (some ⟨w.heap.size, 0, none⟩) ao N N 0 cap Try.underlying22 size24 (by simp)
    exact ⟨_, M.toList, by rw [show ([] : List IPrt).length = 0 from rfl, hr]; rfl, by simpa [icells] using hg, by rw [Array.length_toList, hM, hN]; rfl, below_alloc _ _, by simp⟩

/-- what is lent: the parts, and two marks behind -/
structure LentE (W : World) (R : Nat) (ps : List IPrt) : Prop where
  blk : ∃ cur, W.heap[R]? = some (.cells cur 24 (0, 0)) ∧ (∀ j, j < ps.length * 3 → cur[j]? = (icells ps)[j]?) ∧ cur[ps.length * 3]? = some (.bool false) ∧ cur[ps.length * 3 + 1]? = some (.int .i64 (-7)) ∧ cur[ps.length * 3 + 2]? = some (.string ⟨#[]⟩) ∧ cur[(ps.length + 1) * 3]? = some (.bool false) ∧ cur[(ps.length + 1) * 3 + 1]? = some (.int .i64 (-7)) ∧ cur[(ps.length + 1) * 3 + 2]? = some (.string ⟨#[]⟩)
  lent : W.heap[R + 1]? = some (.cells #[.bool false, .int .i64 (-7), .string ⟨#[]⟩] 24 (0, 0))
theorem LentE.keep {W W' : World} {R : Nat} {ps : List IPrt} (h : LentE W R ps) (hb : Below W.heap.size W W') : LentE W' R ps := by
  obtain ⟨⟨cur, h1, h2⟩, h3⟩ := h
  exact ⟨⟨cur, by rw [hb.block _ (Array.getElem?_eq_some_iff.1 h1).1]; exact h1, h2⟩, by rw [hb.block _ (Array.getElem?_eq_some_iff.1 h3).1]; exact h3⟩
theorem LentE.part {W : World} {R : Nat} {ps : List IPrt} (h : LentE W R ps) (k : Nat) (hk : k < ps.length) : W.cell? ⟨R, k * 3, none⟩ = some (.bool (ps.getD k (false, 0, ⟨#[]⟩)).1) ∧ W.cell? ⟨R, k * 3 + 1, none⟩ = some (.int .i64 (ps.getD k (false, 0, ⟨#[]⟩)).2.1) ∧ W.cell? ⟨R, k * 3 + 2, none⟩ = some (.string (ps.getD k (false, 0, ⟨#[]⟩)).2.2) := by
  obtain ⟨⟨cur, h1, h2, _⟩, _⟩ := h
  obtain ⟨n0, n1, n2⟩ := icells_nth ps k hk
  refine ⟨?_, ?_, ?_⟩
  · rw [cell_of_row W R _ _ _ (0, 0) h1, h2 _ (by omega)]; exact n0
  · rw [cell_of_row W R _ _ _ (0, 0) h1, h2 _ (by omega)]; exact n1
  · rw [cell_of_row W R _ _ _ (0, 0) h1, h2 _ (by omega)]; exact n2
theorem LentE.iprts {W : World} {R : Nat} {ps : List IPrt} (h : LentE W R ps) : IPrts W (some ⟨R, 0, none⟩) ps := fun k hk => by
  obtain ⟨a, b, c⟩ := h.part k hk
  exact ⟨R, 0, rfl, by rw [Nat.zero_add]; exact a, by rw [Nat.zero_add]; exact b, by rw [Nat.zero_add]; exact c⟩
theorem LentE.marks {W : World} {R : Nat} {ps : List IPrt} (h : LentE W R ps) : (W.cell? ⟨R, ps.length * 3, none⟩ = some (.bool false) ∧ W.cell? ⟨R, ps.length * 3 + 1, none⟩ = some (.int .i64 (-7)) ∧ W.cell? ⟨R, ps.length * 3 + 2, none⟩ = some (.string ⟨#[]⟩)) ∧ (W.cell? ⟨R, (ps.length + 1) * 3, none⟩ = some (.bool false) ∧ W.cell? ⟨R, (ps.length + 1) * 3 + 1, none⟩ = some (.int .i64 (-7)) ∧ W.cell? ⟨R, (ps.length + 1) * 3 + 2, none⟩ = some (.string ⟨#[]⟩)) ∧ (W.cell? ⟨R + 1, 0, none⟩ = some (.bool false) ∧ W.cell? ⟨R + 1, 1, none⟩ = some (.int .i64 (-7)) ∧ W.cell? ⟨R + 1, 2, none⟩ = some (.string ⟨#[]⟩)) := by
  obtain ⟨⟨cur, h1, _, m0, m1, m2, m3, m4, m5⟩, hl⟩ := h
  have c := fun j => cell_of_row W R j _ _ (0, 0) h1
  have d := fun j => cell_of_row W (R + 1) j _ _ (0, 0) hl
  exact ⟨⟨(c _).trans m0, (c _).trans m1, (c _).trans m2⟩, ⟨(c _).trans m3, (c _).trans m4, (c _).trans m5⟩, ⟨d 0, d 1, d 2⟩⟩
theorem lentE_mk {w1 : World} {R : Nat} {ps : List IPrt} {rest : List Value} (hrow : w1.heap[R]? = some (.cells (icells ps ++ rest).toArray 24 (0, 0))) (hrl : rest.length = 6) (hsz : w1.heap.size = R + 1) :
    LentE (((((((w1.setCell ⟨R, ps.length * 3, none⟩ (.bool false)).setCell ⟨R, ps.length * 3 + 1, none⟩ (.int .i64 (-7))).setCell ⟨R, ps.length * 3 + 2, none⟩ (.string ⟨#[]⟩)).setCell ⟨R, (ps.length + 1) * 3, none⟩ (.bool false)).setCell ⟨R, (ps.length + 1) * 3 + 1, none⟩ (.int .i64 (-7))).setCell ⟨R, (ps.length + 1) * 3 + 2, none⟩ (.string ⟨#[]⟩)).alloc (.cells #[.bool false, .int .i64 (-7), .string ⟨#[]⟩] 24)) R ps := by
  have hil := icells_length ps
  have r1 := heap_setCell_same (j := ps.length * 3) hrow (.bool false)
  have r2 := heap_setCell_same (j := ps.length * 3 + 1) r1 (.int .i64 (-7))
  have r3 := heap_setCell_same (j := ps.length * 3 + 2) r2 (.string ⟨#[]⟩)
  have r4 := heap_setCell_same (j := (ps.length + 1) * 3) r3 (.bool false)
  have r5 := heap_setCell_same (j := (ps.length + 1) * 3 + 1) r4 (.int .i64 (-7))
  have r6 := heap_setCell_same (j := (ps.length + 1) * 3 + 2) r5 (.string ⟨#[]⟩)
  have hcs : (icells ps ++ rest).toArray.size = ps.length * 3 + 6 := by simp [hil, hrl]
  refine ⟨⟨_, (Below.heap_alloc _ _ _ (Array.getElem?_eq_some_iff.1 r6).1).trans r6, fun j hj => ?_, ?_, ?_, ?_, ?_, ?_, ?_⟩, ?_⟩
  · rw [Array.getElem?_setIfInBounds_ne (by omega), Array.getElem?_setIfInBounds_ne (by omega), Array.getElem?_setIfInBounds_ne (by omega), Array.getElem?_setIfInBounds_ne (by omega), Array.getElem?_setIfInBounds_ne (by omega), Array.getElem?_setIfInBounds_ne (by omega)]
    rw [List.getElem?_toArray, List.getElem?_append_left (by omega)]
  · rw [Array.getElem?_setIfInBounds_ne (by omega), Array.getElem?_setIfInBounds_ne (by omega), Array.getElem?_setIfInBounds_ne (by omega), Array.getElem?_setIfInBounds_ne (by omega), Array.getElem?_setIfInBounds_ne (by omega), Array.getElem?_setIfInBounds_self_of_lt (by omega)]
  · rw [Array.getElem?_setIfInBounds_ne (by omega), Array.getElem?_setIfInBounds_ne (by omega), Array.getElem?_setIfInBounds_ne (by omega), Array.getElem?_setIfInBounds_ne (by omega), Array.getElem?_setIfInBounds_self_of_lt (by rw [Array.size_setIfInBounds]; omega)]
  · rw [Array.getElem?_setIfInBounds_ne (by omega), Array.getElem?_setIfInBounds_ne (by omega), Array.getElem?_setIfInBounds_ne (by omega), Array.getElem?_setIfInBounds_self_of_lt (by simp only [Array.size_setIfInBounds]; omega)]
  · rw [Array.getElem?_setIfInBounds_ne (by omega), Array.getElem?_setIfInBounds_ne (by omega), Array.getElem?_setIfInBounds_self_of_lt (by simp only [Array.size_setIfInBounds]; omega)]
  · rw [Array.getElem?_setIfInBounds_ne (by omega), Array.getElem?_setIfInBounds_self_of_lt (by simp only [Array.size_setIfInBounds]; omega)]
  · rw [Array.getElem?_setIfInBounds_self_of_lt (by simp only [Array.size_setIfInBounds]; omega)]
  · have hs6 : ((((((w1.setCell ⟨R, ps.length * 3, none⟩ (.bool false)).setCell ⟨R, ps.length * 3 + 1, none⟩ (.int .i64 (-7))).setCell ⟨R, ps.length * 3 + 2, none⟩ (.string ⟨#[]⟩)).setCell ⟨R, (ps.length + 1) * 3, none⟩ (.bool false)).setCell ⟨R, (ps.length + 1) * 3 + 1, none⟩ (.int .i64 (-7))).setCell ⟨R, (ps.length + 1) * 3 + 2, none⟩ (.string ⟨#[]⟩)).heap.size = R + 1 := by simp [World.setCell, hsz]
    have := heap_alloc_new ((((((w1.setCell ⟨R, ps.length * 3, none⟩ (.bool false)).setCell ⟨R, ps.length * 3 + 1, none⟩ (.int .i64 (-7))).setCell ⟨R, ps.length * 3 + 2, none⟩ (.string ⟨#[]⟩)).setCell ⟨R, (ps.length + 1) * 3, none⟩ (.bool false)).setCell ⟨R, (ps.length + 1) * 3 + 1, none⟩ (.int .i64 (-7))).setCell ⟨R, (ps.length + 1) * 3 + 2, none⟩ (.string ⟨#[]⟩)) (.cells #[.bool false, .int .i64 (-7), .string ⟨#[]⟩] 24)
    rwa [hs6] at this

theorem tot_each : ∀ (ps : List IPrt), (∀ p ∈ ps, p.2.2.size ≤ 140737488351232) → totP ps ≤ ps.length * 140737488351240
  | [], _ => by simp [totP]
  | p :: r, h => by
    have ih := tot_each r (fun q hq => h q (List.mem_cons_of_mem _ hq))
    have h0 := h p (List.mem_cons_self ..)
    rw [totP_cons, List.length_cons]
    omega
theorem tot_short (ps : List IPrt) (h : ∀ p ∈ ps, p.2.2.size ≤ 140737488351232) (hn : ps.length ≤ 400) : totP ps < 72057594037927936 := by
  have := tot_each ps h
  omega

set_option maxHeartbeats 3200000 in
set_option maxRecDepth 20000 in
theorem encodes_any (ao : Option Addr) (cap : Nat) (ps : List IPrt) (w : World) (hn : ps.length ≤ 4398046511104) (hp : IPrts w ao ps) (hs : ∀ p ∈ ps, p.2.2.size ≤ 140737488351232) :
    Calls Try.prog 3 #[.slice ao ps.length cap] w fun e w' => e = .returned (.bool true) ∧ Below w.heap.size w w' := by
  obtain ⟨N, M, hN, hM, hmk⟩ : ∃ (N : Nat) (M : Array Value), Hid (N = ps.length + 2) ∧ Hid (M.size = N * 3) ∧ ∀ w : World, (Instr.makeSlice 22 (.int .i64 ((ps.length : Int) + 2)) (.int .i64 ((ps.length : Int) + 2))).run Try.prog w =
    .ok (.slice (some ⟨w.heap.size, 0, none⟩) N N) (w.alloc (.cells M 24)) := ⟨ps.length + 2, madeCells #[.bool false, .int .i64 0, .string ⟨#[]⟩] ((ps.length + 2) * 3), rfl, by show _ = _; rw [size_madeCells], fun w => by
      have := make_ps (ps.length + 2) (by omega) w
      rw [show ((ps.length + 2 : Nat) : Int) = (ps.length : Int) + 2 from by omega] at this
      rw [this]⟩
  obtain ⟨w1, rest, hcopy, hrow, hrl, hb1, hsz1⟩ := copy_ps w ao cap N ps M hN.out hM.out hp
  obtain ⟨A, hA⟩ : ∃ A, Hid (A = ps.length * 3) := ⟨ps.length * 3, Eq.refl _⟩
  have hil := icells_length ps
  have cellX : ∀ j, j < ps.length * 3 + 6 → (∃ u, w1.cell? ⟨w.heap.size, j, none⟩ = some u) ∧ w1.frozen? ⟨w.heap.size, j, none⟩ = false := fun j hj => by
    refine ⟨?_, frozen_of_row _ _ _ _ _ hrow⟩
    rw [cell_of_row _ _ j _ _ (0, 0) hrow]
    exact ⟨_, Array.getElem?_eq_getElem (by simp [hil, hrl]; omega)⟩
  have b0 : (ps.length : Int) < (N : Int) := by have := hN.out; omega
  have b1 : (ps.length : Int) + 1 < (N : Int) := by have := hN.out; omega
  have b2 : (ps.length : Int) ≤ (N : Int) := by omega
  have hnI : (ps.length : Int) ≤ 4398046511104 := by omega
  obtain ⟨⟨u0, e0⟩, f0⟩ := cellX (ps.length * 3) (by omega)
  obtain ⟨⟨u1, e1⟩, f1⟩ := cellX (ps.length * 3 + 1) (by omega)
  obtain ⟨⟨u2, e2⟩, f2⟩ := cellX (ps.length * 3 + 2) (by omega)
  obtain ⟨⟨u3, e3⟩, f3⟩ := cellX ((ps.length + 1) * 3) (by omega)
  obtain ⟨⟨u4, e4⟩, f4⟩ := cellX ((ps.length + 1) * 3 + 1) (by omega)
  obtain ⟨⟨u5, e5⟩, f5⟩ := cellX ((ps.length + 1) * 3 + 2) (by omega)
  have HP := hide hp
  have HT : Hid (∀ p ∈ ps, p.2.2.size ≤ 281474976710656) := fun p h => Nat.le_trans (hs p h) (by omega)
  have HTR : Hid (ps.length ≤ 400 → totP ps < 72057594037927936) := fun h => tot_short ps hs h
  have HRow := hide (And.intro hrow (And.intro hrl (And.intro hb1 hsz1)))
  have hsz2 := hsz1
  clear hp hs cellX hrow hrl hb1 hn hil
  go_enter Try.func3, Try.ntmps3
  go_wp2_with fail
  have HLE := hide (lentE_mk HRow.out.1 HRow.out.2.1 HRow.out.2.2.2)
  have HBW : Hid (Below w.heap.size w (((((((w1.setCell ⟨w.heap.size, ps.length * 3, none⟩ (.bool false)).setCell ⟨w.heap.size, ps.length * 3 + 1, none⟩ (.int .i64 (-7))).setCell ⟨w.heap.size, ps.length * 3 + 2, none⟩ (.string ⟨#[]⟩)).setCell ⟨w.heap.size, (ps.length + 1) * 3, none⟩ (.bool false)).setCell ⟨w.heap.size, (ps.length + 1) * 3 + 1, none⟩ (.int .i64 (-7))).setCell ⟨w.heap.size, (ps.length + 1) * 3 + 2, none⟩ (.string ⟨#[]⟩)).alloc (.cells #[.bool false, .int .i64 (-7), .string ⟨#[]⟩] 24))) := by
    refine Below.alloc ?_ (by simp [World.setCell]; omega) _
    exact (((((HRow.out.2.2.1.setCell (Nat.le_refl _) _).setCell (Nat.le_refl _) _).setCell (Nat.le_refl _) _).setCell (Nat.le_refl _) _).setCell (Nat.le_refl _) _).setCell (Nat.le_refl _) _
  clear e0 e1 e2 e3 e4 e5 f0 f1 f2 f3 f4 f5 hcopy hmk HRow hsz1 hsz2
  generalize World.alloc _ _ = W at *
  refine (cEncode_any (some ⟨w.heap.size, 0, none⟩) N ps W (by omega) HLE.out.iprts HT.out).mono ?_
  rintro e w2 ⟨rfl, hb2⟩
  have HB2 : Hid (Below W.heap.size W w2) := hb2
  clear hb2
  go_wp2_with fail
  refine (rEncode_any ao cap ps w2 (by omega) ((HP.out.keep HBW.out (Nat.le_refl _)).keep HB2.out (Nat.le_refl _)) HTR.out).mono ?_
  rintro e w3 ⟨rfl, hb3⟩
  have HB3 : Hid (Below W.heap.size W w3) := HB2.out.trans (hb3.mono HB2.out.size)
  have HP3 : Hid (IPrts w3 ao ps) := (HP.out.keep HBW.out (Nat.le_refl _)).keep HB3.out (Nat.le_refl _)
  have HL3 := hide (HLE.out.keep HB3.out)
  clear hb3 HB2
  generalize encP ps = X
  obtain ⟨xs, xe⟩ := X
  go_wp2_with fail
  go_loopw [9] (fun i wq => ∃ j : Nat, j ≤ ps.length ∧ i = .int .i64 (j : Int) ∧ ∃ n, wq = w3.drewN n) (fun i _ => ps.length - (intOf i).toNat)
  case atStart => exact ⟨0, Nat.zero_le _, rfl, 0, rfl⟩
  case round =>
    obtain ⟨j, hj, rfl, n, rfl⟩ := hrel
    by_cases hjl : j < ps.length
    · obtain ⟨b, off, rfl, p0, p1, p2⟩ := HP3.out j hjl
      obtain ⟨r0, r1, r2⟩ := HL3.out.part j hjl
      generalize ps.getD j (false, 0, ⟨#[]⟩) = p at *
      obtain ⟨l, c, d⟩ := p
      simp only at p0 p1 p2 r0 r1 r2
      have j0 : (0 : Int) ≤ (j : Int) := by omega
      have j1 : (j : Int) < (ps.length : Int) := by omega
      have j2 : (j : Int) < (N : Int) := by omega
      go_wp2
      go_quiet (fail)
      go_wp2
      go_roundw
      case rel => exact ⟨j + 1, by omega, by go_num, n + nq, rfl⟩
      case measure => simp [intOf]; omega
    · have HL4 : LentE (w3.drewN n) w.heap.size ps := HL3.out.keep (below_drewN (Below.refl _ _) n)
      have HF2 : Hid (Below w.heap.size w (w3.drewN n)) := below_drewN (HBW.out.trans (HB3.out.mono HBW.out.size)) n
      generalize w3.drewN n = W3 at *
      obtain ⟨⟨m0, m1, m2⟩, ⟨m3, m4, m5⟩, ⟨m6, m7, m8⟩⟩ := HL4.marks
      clear HL4
      go_wp2
      go_quiet ((go_at_call 10; refine Calls.quiet_of_same (num_any _ _)))
      go_wp2
      go_ret
      exact ⟨rfl, below_drewN HF2.out _⟩
end Go.Proofs.Ytoafiieciiijbaa
