/-
  OUR OWN: the walk of (*Book).numbers.
-/
import Derived.Test.YtoafiieciiijbaaPathG
import Derived.Test.YtoafiieciiijbaaLawsB
namespace Go.Proofs.Ytoafiieciiijbaa
open Go.RowKit

theorem info48 : (Try.prog.info? 48).map (fun i => (i.zero, i.size, i.bytes)) = some (some (.slice none 0 0), 1, 24) := by kernel_rfl

/-- the world behind (*Book).numbers -/
structure NumPost (w w' : World) (B : Nat) (l1 l3 l4 l5 l6 : Value) (L2 : Value) (N2 : Nat) (rows : List Value) (lv : Value) (n : Nat) (m : Value) : Prop where
  ends : ∃ L2' x y z, w'.heap[B]? = some (.cells #[l1, L2', l3, l4, l5, l6] 39 (0, 0)) ∧ w'.ownsRow 0 48 1 L2' (N2 + 4) (rows ++ [lv, x, y, z]) ∧ MkA w' lv n m ∧ MkA w' x (n + 1) m ∧ MkA w' y (n + 2) m ∧ MkA w' z (n + 3) m ∧
    (∀ u, u = lv ∨ u = x ∨ u = y ∨ u = z → ∀ k, u.ownBlock = some k → k ≠ B ∧ k < w'.heap.size ∧ L2'.ownBlock ≠ some k ∧ (lv.ownBlock = some k ∨ w.heap.size ≤ k)) ∧ (∀ k, L2'.ownBlock = some k → k ≠ B ∧ k < w'.heap.size ∧ (L2.ownBlock = some k ∨ w.heap.size ≤ k))
  os : w'.os = w.os
  tape : w'.tape = w.tape
  output : w'.output = w.output
  size : w.heap.size ≤ w'.heap.size
  far : ∀ k, k < w.heap.size → k ≠ B → some k ≠ lv.ownBlock → some k ≠ L2.ownBlock → w'.heap[k]? = w.heap[k]?

theorem rep_step (n k : Nat) (xs : List Value) (m : Value) (hl : xs.length = n) (h : k < n) : (List.replicate k m ++ xs.drop k).set k m = List.replicate (k + 1) m ++ xs.drop (k + 1) := by
  apply List.ext_getElem?
  intro j
  by_cases h1 : j < k
  · rw [List.getElem?_set_ne (by omega)]
    rw [List.getElem?_append_left (by simp; omega), List.getElem?_append_left (by simp; omega)]
    simp [h1, show j < k + 1 by omega]
  · by_cases h2 : j = k
    · subst h2
      rw [List.getElem?_set_self (by simp [hl]; omega), List.getElem?_append_left (by simp)]
      simp
    · rw [List.getElem?_set_ne (by omega)]
      rw [List.getElem?_append_right (by simp; omega), List.getElem?_append_right (by simp; omega)]
      simp only [List.length_replicate, List.getElem?_drop]
      congr 1
      omega
theorem rep_snoc (k : Nat) (m : Value) : List.replicate k m ++ [m] = List.replicate (k + 1) m := by
  rw [List.replicate_succ']
theorem cell_of_blk {w : World} {B : Nat} {cs : Array Value} {t : TypeId} (h : w.heap[B]? = some (.cells cs t (0, 0))) (j : Nat) : w.cell? ⟨B, j, none⟩ = cs[j]? := cell_of_row w B j cs t (0, 0) h
theorem frozen_of_blk {w : World} {B : Nat} {cs : Array Value} {t : TypeId} (h : w.heap[B]? = some (.cells cs t (0, 0))) (j : Nat) : w.frozen? ⟨B, j, none⟩ = false := by
  simp [World.frozen?, h]
theorem heap_setCell_same {w : World} {B j : Nat} {cs : Array Value} {t : TypeId} {fr : Nat × Nat} (h : w.heap[B]? = some (.cells cs t fr)) (u : Value) : (w.setCell ⟨B, j, none⟩ u).heap[B]? = some (.cells (cs.setIfInBounds j u) t fr) := by
  simp only [World.setCell, Array.getElem?_modify, if_true, h, Option.map_some]
  simp

/-- the frames of the three appends, joined -/
structure Three (w wr w1 w2 w3 : World) (lv x y z : Value) (n : Nat) (m : Value) : Prop where
  a3 : w.grownBy w3 lv.ownBlock
  ml : MkA w3 lv n m
  mx : MkA w3 x (n + 1) m
  my : MkA w3 y (n + 2) m
  mz : MkA w3 z (n + 3) m
  bx : ∀ k, x.ownBlock = some k → lv.ownBlock = some k ∨ w.heap.size ≤ k
  by' : ∀ k, y.ownBlock = some k → lv.ownBlock = some k ∨ w.heap.size ≤ k
  bz : ∀ k, z.ownBlock = some k → lv.ownBlock = some k ∨ w.heap.size ≤ k
  lx : ∀ u, u = lv ∨ u = x ∨ u = y ∨ u = z → ∀ k, u.ownBlock = some k → k < w3.heap.size

theorem three {w wr w1 w2 w3 : World} {o1 o2 o3 : Obj} {lv : Value} {n g1 c1 g2 c2 g3 c3 : Nat} {m : Value} (hg : w.grownBy wr lv.ownBlock) 
    (O1 : w1.ownsRow 0 3 1 (.slice (some ⟨g1, 0, none⟩) (n + 1) c1) (n + 1) (List.replicate n m ++ [m])) (K1 : w1.ownsRow 0 3 1 lv n (List.replicate n m)) (G1 : (wr.alloc o1).grownBy w1 lv.ownBlock) (A1 : lv.ownBlock = some g1 ∨ g1 = wr.heap.size + 1)
    (O2 : w2.ownsRow 0 3 1 (.slice (some ⟨g2, 0, none⟩) (n + 2) c2) (n + 2) (List.replicate (n + 1) m ++ [m])) (K2 : w2.ownsRow 0 3 1 (.slice (some ⟨g1, 0, none⟩) (n + 1) c1) (n + 1) (List.replicate (n + 1) m)) (G2 : (w1.alloc o2).grownBy w2 (some g1)) (A2 : g1 = g2 ∨ g2 = w1.heap.size + 1)
    (O3 : w3.ownsRow 0 3 1 (.slice (some ⟨g3, 0, none⟩) (n + 3) c3) (n + 3) (List.replicate (n + 2) m ++ [m])) (K3 : w3.ownsRow 0 3 1 (.slice (some ⟨g2, 0, none⟩) (n + 2) c2) (n + 2) (List.replicate (n + 2) m)) (G3 : (w2.alloc o3).grownBy w3 (some g2)) (A3 : g2 = g3 ∨ g3 = w2.heap.size + 1) :
    Three w wr w1 w2 w3 lv (.slice (some ⟨g1, 0, none⟩) (n + 1) c1) (.slice (some ⟨g2, 0, none⟩) (n + 2) c2) (.slice (some ⟨g3, 0, none⟩) (n + 3) c3) n m := by
  have s0 := hg.size
  have B1 : w.grownBy w1 lv.ownBlock := (hg.andThen (World.grownBy_alloc wr o1 lv.ownBlock) (fun j e => .inr e)).andThen G1 (fun j e => .inr e)
  have q1 : lv.ownBlock = some g1 ∨ w.heap.size ≤ g1 := by rcases A1 with h | h; exact .inl h; right; omega
  have s1 := B1.size
  have B2 : w.grownBy w2 lv.ownBlock := (B1.andThen (World.grownBy_alloc w1 o2 lv.ownBlock) (fun j e => .inr e)).andThen G2 (fun j e => by
    obtain rfl : g1 = j := by simpa using e
    rcases q1 with h | h; exact .inr h; exact .inl h)
  have q2 : lv.ownBlock = some g2 ∨ w.heap.size ≤ g2 := by rcases A2 with h | h; rw [← h]; exact q1; right; omega
  have s2 := B2.size
  have B3 : w.grownBy w3 lv.ownBlock := (B2.andThen (World.grownBy_alloc w2 o3 lv.ownBlock) (fun j e => .inr e)).andThen G3 (fun j e => by
    obtain rfl : g2 = j := by simpa using e
    rcases q2 with h | h; exact .inr h; exact .inl h)
  have q3 : lv.ownBlock = some g3 ∨ w.heap.size ≤ g3 := by rcases A3 with h | h; rw [← h]; exact q2; right; omega
  rw [rep_snoc] at O1 O2 O3
  have ml1 : Mk w1 lv n m := Mk.own K1
  have mx1 : Mk w1 (.slice (some ⟨g1, 0, none⟩) (n + 1) c1) (n + 1) m := Mk.own O1
  have al : ∀ {w : World} {u : Value} {k : Nat} (o : Obj), Mk w u k m → Mk (w.alloc o) u k m := fun o h => h.far (fun g _ hlt => Below.heap_alloc _ o g hlt)
  have ml2 : Mk w2 lv n m := (al o2 ml1).grown K2 (by omega) G2
  have mx2 : Mk w2 (.slice (some ⟨g1, 0, none⟩) (n + 1) c1) (n + 1) m := (al o2 mx1).grown K2 (by omega) G2
  have my2 : Mk w2 (.slice (some ⟨g2, 0, none⟩) (n + 2) c2) (n + 2) m := Mk.own O2
  exact ⟨B3, ((al o3 ml2).grown K3 (by omega) G3).any, ((al o3 mx2).grown K3 (by omega) G3).any, ((al o3 my2).grown K3 (by omega) G3).any, (Mk.own O3).any,
    fun k e => by obtain rfl : g1 = k := by simpa [Value.ownBlock] using e
                  exact q1,
    fun k e => by obtain rfl : g2 = k := by simpa [Value.ownBlock] using e
                  exact q2,
    fun k e => by obtain rfl : g3 = k := by simpa [Value.ownBlock] using e
                  exact q3,
    fun u hu k e => by
      have t2 := G2.size
      have t3 := G3.size
      simp at t2 t3
      rcases hu with rfl | rfl | rfl | rfl
      · have := (K1.lt k e).2; omega
      · have := (O1.lt k e).2; omega
      · have := (O2.lt k e).2; omega
      · exact (O3.lt k e).2⟩

theorem Three.own2 {w wr w1 w2 w3 : World} {L2 lv x y z : Value} {N2 n : Nat} {rows : List Value} {m : Value} (T : Three w wr w1 w2 w3 lv x y z n m) (h2l : L2.ownBlock = none ∨ L2.ownBlock ≠ lv.ownBlock) (h2 : w.ownsRow 0 48 1 L2 N2 rows) : w3.ownsRow 0 48 1 L2 N2 rows :=
  own_far h2 (fun k e _ => T.a3.block k (h2.lt k e).2 (fun e2 => h2l.elim (fun h => by rw [h] at e; cases e) (fun h => h (e.trans e2))))
theorem Three.cellB {w wr w1 w2 w3 : World} {lv x y z L2 l1 l3 l4 l5 l6 : Value} {B n : Nat} {m : Value} (T : Three w wr w1 w2 w3 lv x y z n m) (hB : w.heap[B]? = some (.cells #[l1, L2, l3, l4, l5, l6] 39 (0, 0))) (hBl : lv.ownBlock ≠ some B) :
    w3.heap[B]? = some (.cells #[l1, L2, l3, l4, l5, l6] 39 (0, 0)) := by
  rw [T.a3.block B (Array.getElem?_eq_some_iff.1 hB).1 (fun e => hBl e.symm)]; exact hB

theorem blk4 {w3 w4 : World} {o4 : Obj} {L2 : Value} {B : Nat} {cs : Array Value} {t : TypeId} (h : w3.heap[B]? = some (.cells cs t (0, 0))) (G4 : (w3.alloc o4).grownBy w4 L2.ownBlock) (hB2 : L2.ownBlock ≠ some B) : w4.heap[B]? = some (.cells cs t (0, 0)) := by
  have hlt : B < w3.heap.size := (Array.getElem?_eq_some_iff.1 h).1
  rw [G4.block B (by simp; omega) (fun e => hB2 e.symm), Below.heap_alloc _ _ _ hlt]; exact h

/-- the end: the book's list has grown by four -/
theorem numPost_mk {w wr w1 w2 w3 w4 : World} {B : Nat} {l1 l3 l4 l5 l6 L2 L2' lv x y z : Value} {N2 n : Nat} {rows : List Value} {m : Value} {o4 : Obj} (T : Three w wr w1 w2 w3 lv x y z n m)
    (hB : w.heap[B]? = some (.cells #[l1, L2, l3, l4, l5, l6] 39 (0, 0))) (hBl : lv.ownBlock ≠ some B) (hB2 : L2.ownBlock ≠ some B) (h2l : L2.ownBlock = none ∨ L2.ownBlock ≠ lv.ownBlock) (h2 : w.ownsRow 0 48 1 L2 N2 rows)
    (O4 : w4.ownsRow 0 48 1 L2' (N2 + 4) (rows ++ [lv, x, y, z])) (G4 : (w3.alloc o4).grownBy w4 L2.ownBlock) (A4 : ∀ k, L2'.ownBlock = some k → L2.ownBlock = some k ∨ k = w3.heap.size + 1) :
    NumPost w (w4.setCell ⟨B, 1, none⟩ L2') B l1 l3 l4 l5 l6 L2 N2 rows lv n m := by
  have hBs : B < w.heap.size := (Array.getElem?_eq_some_iff.1 hB).1
  have s3 := T.a3.size
  have s4 : w3.heap.size + 1 ≤ w4.heap.size := by have := G4.size; simpa using this
  have sets : ∀ k, k ≠ B → (w4.setCell ⟨B, 1, none⟩ L2').heap[k]? = w4.heap[k]? := fun k hk => Below.heap_setCell _ _ _ _ hk
  have b4 : ∀ k, k < w3.heap.size → some k ≠ L2.ownBlock → w4.heap[k]? = w3.heap[k]? := fun k hk hne => by
    rw [G4.block k (by simp; omega) hne]; exact Below.heap_alloc _ _ _ hk
  have hBw4 : w4.heap[B]? = w.heap[B]? := by
    rw [b4 B (by omega) (fun e => hB2 e.symm)]; exact T.a3.block B hBs (fun e => hBl e.symm)
  have h2lt : ∀ k, L2.ownBlock = some k → k < w.heap.size := fun k hk => (h2.lt k hk).2
  have nl2 : ∀ k, (lv.ownBlock = some k ∨ w.heap.size ≤ k) → some k ≠ L2.ownBlock := by
    intro k hk e
    rcases hk with h | h
    · rcases h2l with h' | h'
      · rw [h'] at e; cases e
      · exact h' (by rw [h, ← e])
    · have := h2lt k e.symm; omega
  have nB : ∀ k, (lv.ownBlock = some k ∨ w.heap.size ≤ k) → k ≠ B := by
    intro k hk e
    subst e
    rcases hk with h | h
    · exact hBl h
    · omega
  have mk : ∀ {u : Value} {j : Nat}, MkA w3 u j m → (∀ k, u.ownBlock = some k → lv.ownBlock = some k ∨ w.heap.size ≤ k) → MkA (w4.setCell ⟨B, 1, none⟩ L2') u j m := by
    intro u j h hb
    refine h.far (fun g e hlt => ?_)
    rw [sets g (nB g (hb g e)), b4 g hlt (nl2 g (hb g e))]
  refine ⟨⟨L2', x, y, z, ?_, ?_, mk T.ml (fun k e => .inl e), mk T.mx T.bx, mk T.my T.by', mk T.mz T.bz, ?_, ?_⟩, ?_, ?_, ?_, ?_, ?_⟩
  · rw [hB] at hBw4
    rw [heap_setCell_same hBw4]; simp
  · refine own_far O4 (fun g e _ => sets g ?_)
    intro e2
    subst e2
    rcases A4 g e with h | h
    · exact hB2 h
    · omega
  · intro u hu k e
    have hq : lv.ownBlock = some k ∨ w.heap.size ≤ k := by
      rcases hu with rfl | rfl | rfl | rfl
      · exact .inl e
      · exact T.bx k e
      · exact T.by' k e
      · exact T.bz k e
    have hlt := T.lx u hu k e
    refine ⟨nB k hq, ?_, ?_, hq⟩
    · show k < (w4.heap.modify _ _).size
      rw [Array.size_modify]; omega
    · intro e2
      rcases A4 k e2 with h | h
      · exact nl2 k hq h.symm
      · omega
  · intro k e
    have hlt := (O4.lt k e).2
    refine ⟨?_, ?_, ?_⟩
    · intro e2
      subst e2
      rcases A4 k e with h | h
      · exact hB2 h
      · omega
    · show k < (w4.heap.modify _ _).size
      rw [Array.size_modify]; omega
    · rcases A4 k e with h | h
      · exact .inl h
      · right; omega
  · exact G4.os.trans T.a3.os
  · exact G4.tape.trans T.a3.tape
  · exact G4.output.trans T.a3.output
  · show w.heap.size ≤ (w4.heap.modify _ _).size
    rw [Array.size_modify]; omega
  · intro k hk h1 h2' h3
    rw [sets k h1, b4 k (by omega) h3]
    exact T.a3.block k hk h2'

theorem three_full {w wr w1 w2 w3 : World} {o1 o2 o3 : Obj} {G off c n g1 c1 g2 c2 g3 c3 : Nat} {m : Value} (hg : w.grownBy wr (some G)) (hGl : G < w.heap.size) (hml : MkA wr (.slice (some ⟨G, off, none⟩) n c) n m)
    (O1 : w1.ownsRow 0 3 1 (.slice (some ⟨g1, 0, none⟩) (n + 1) c1) (n + 1) (List.replicate n m ++ [m])) (G1 : (wr.alloc o1).grownBy w1 none) (hg1 : wr.heap.size + 1 ≤ g1)
    (O2 : w2.ownsRow 0 3 1 (.slice (some ⟨g2, 0, none⟩) (n + 2) c2) (n + 2) (List.replicate (n + 1) m ++ [m])) (K2 : w2.ownsRow 0 3 1 (.slice (some ⟨g1, 0, none⟩) (n + 1) c1) (n + 1) (List.replicate (n + 1) m)) (G2 : (w1.alloc o2).grownBy w2 (some g1)) (A2 : g1 = g2 ∨ g2 = w1.heap.size + 1)
    (O3 : w3.ownsRow 0 3 1 (.slice (some ⟨g3, 0, none⟩) (n + 3) c3) (n + 3) (List.replicate (n + 2) m ++ [m])) (K3 : w3.ownsRow 0 3 1 (.slice (some ⟨g2, 0, none⟩) (n + 2) c2) (n + 2) (List.replicate (n + 2) m)) (G3 : (w2.alloc o3).grownBy w3 (some g2)) (A3 : g2 = g3 ∨ g3 = w2.heap.size + 1) :
    Three w wr w1 w2 w3 (.slice (some ⟨G, off, none⟩) n c) (.slice (some ⟨g1, 0, none⟩) (n + 1) c1) (.slice (some ⟨g2, 0, none⟩) (n + 2) c2) (.slice (some ⟨g3, 0, none⟩) (n + 3) c3) n m := by
  have s0 := hg.size
  have B1 : w.grownBy w1 (some G) := (hg.andThen (World.grownBy_alloc wr o1 (some G)) (fun j e => .inr e)).andThen G1 (fun j e => by cases e)
  have s1 := B1.size
  have t1 : wr.heap.size + 1 ≤ w1.heap.size := by have := G1.size; simpa using this
  have B2 : w.grownBy w2 (some G) := (B1.andThen (World.grownBy_alloc w1 o2 (some G)) (fun j e => .inr e)).andThen G2 (fun j e => by
    obtain rfl : g1 = j := by simpa using e
    exact .inl (by omega))
  have t2 : w1.heap.size + 1 ≤ w2.heap.size := by have := G2.size; simpa using this
  have q2 : w.heap.size ≤ g2 := by rcases A2 with h | h <;> omega
  have B3 : w.grownBy w3 (some G) := (B2.andThen (World.grownBy_alloc w2 o3 (some G)) (fun j e => .inr e)).andThen G3 (fun j e => by
    obtain rfl : g2 = j := by simpa using e
    exact .inl q2)
  have t3 : w2.heap.size + 1 ≤ w3.heap.size := by have := G3.size; simpa using this
  have q3 : w.heap.size ≤ g3 := by rcases A3 with h | h <;> omega
  rw [rep_snoc] at O1 O2 O3
  have mx1 : Mk w1 (.slice (some ⟨g1, 0, none⟩) (n + 1) c1) (n + 1) m := Mk.own O1
  have al : ∀ {w : World} {u : Value} {k : Nat} (o : Obj), Mk w u k m → Mk (w.alloc o) u k m := fun o h => h.far (fun g _ hlt => Below.heap_alloc _ o g hlt)
  have mx2 : Mk w2 (.slice (some ⟨g1, 0, none⟩) (n + 1) c1) (n + 1) m := (al o2 mx1).grown K2 (by omega) G2
  have my2 : Mk w2 (.slice (some ⟨g2, 0, none⟩) (n + 2) c2) (n + 2) m := Mk.own O2
  have ml3 : MkA w3 (.slice (some ⟨G, off, none⟩) n c) n m := hml.far (fun g e hlt => by
    obtain rfl : G = g := by simpa [Value.ownBlock] using e
    rw [G3.block G (by simp; omega) (by simp; omega), Below.heap_alloc _ _ _ (by omega), G2.block G (by simp; omega) (by simp; omega), Below.heap_alloc _ _ _ (by omega), G1.block G (by simp; omega) (by simp), Below.heap_alloc _ _ _ hlt])
  exact ⟨B3, ml3, ((al o3 mx2).grown K3 (by omega) G3).any, ((al o3 my2).grown K3 (by omega) G3).any, (Mk.own O3).any,
    fun k e => by obtain rfl : g1 = k := by simpa [Value.ownBlock] using e
                  right; omega,
    fun k e => by obtain rfl : g2 = k := by simpa [Value.ownBlock] using e
                  right; exact q2,
    fun k e => by obtain rfl : g3 = k := by simpa [Value.ownBlock] using e
                  right; exact q3,
    fun u hu k e => by
      rcases hu with rfl | rfl | rfl | rfl
      · obtain rfl : G = k := by simpa [Value.ownBlock] using e
        omega
      · have := (O1.lt k e).2; omega
      · have := (O2.lt k e).2; omega
      · exact (O3.lt k e).2⟩
theorem grown_set (w : World) (g j : Nat) (u : Value) : w.grownBy (w.setCell ⟨g, j, none⟩ u) (some g) :=
  ⟨rfl, rfl, rfl, by simp [World.setCell], fun k _ hne => Below.heap_setCell _ _ _ _ (fun e => hne (by rw [e]))⟩
/-- k marks, then what was there -/
def Half (w : World) (g o n k : Nat) (m : Value) : Prop := ∃ cur, w.heap[g]? = some (.cells cur 3 (0, 0)) ∧ o + n ≤ cur.size ∧ ∀ j, j < k → cur[o + j]? = some m
theorem Half.step {w : World} {g o n k : Nat} {m : Value} (h : Half w g o n k m) (hk : k < n) : (∃ u, w.cell? ⟨g, o + k, none⟩ = some u) ∧ w.frozen? ⟨g, o + k, none⟩ = false ∧ Half (w.setCell ⟨g, o + k, none⟩ m) g o n (k + 1) m := by
  obtain ⟨cur, h1, h2, h3⟩ := h
  refine ⟨?_, frozen_of_row w g (o + k) _ _ h1, ?_⟩
  · rw [cell_of_row w g (o + k) _ _ (0, 0) h1]
    exact ⟨_, Array.getElem?_eq_getElem (by omega)⟩
  · refine ⟨_, heap_setCell_same h1 m, by simp; omega, fun j hj => ?_⟩
    by_cases e : j = k
    · subst e
      rw [Array.getElem?_setIfInBounds_self_of_lt (by omega)]
    · rw [Array.getElem?_setIfInBounds_ne (by omega)]
      exact h3 j (by omega)
theorem Half.mk {w : World} {g o n c : Nat} {m : Value} (h : Half w g o n n m) : MkA w (.slice (some ⟨g, o, none⟩) n c) n m := by
  obtain ⟨cur, h1, h2, h3⟩ := h
  refine .inr ⟨g, o, c, rfl, fun j hj => ?_⟩
  rw [cell_of_row w g (o + j) _ _ (0, 0) h1]
  exact h3 j hj

set_option maxRecDepth 100000 in
set_option maxHeartbeats 1600000 in
theorem numbers_full (L2 : Value) (B : Nat) (l1 l3 l4 l5 l6 : Value) (N2 q : Nat) (rows : List Value) (lv : Value) (n g off : Nat) (hlv : lv = .slice (some ⟨g, off, none⟩) n n) (w : World)
    (hB : w.heap[B]? = some (.cells #[l1, L2, l3, l4, l5, l6] 39 (0, 0))) (h2 : w.ownsRow 0 48 1 L2 N2 rows) (hq : (N2 : Int) / 4 = (q : Int)) (hN2 : N2 ≤ 100) (hq1 : q ≤ 25)
    (hl : ∃ cur, w.heap[g]? = some (.cells cur 3 (0, 0)) ∧ off + n ≤ cur.size) (hn : n ≤ 1000000) (hBl : lv.ownBlock ≠ some B) (hB2 : L2.ownBlock ≠ some B) (h2l : L2.ownBlock = none ∨ L2.ownBlock ≠ lv.ownBlock) :
    Calls Try.prog 21 #[.pointer (some ⟨B, 0, none⟩), lv] w fun e w' => e = .returned (.tuple #[]) ∧ NumPost w w' B l1 l3 l4 l5 l6 L2 N2 rows lv n (.int .i64 (-7 - (q : Int))) := by
  obtain ⟨i0, hi, hz0, hz1, hz2⟩ := info_parts info3
  obtain ⟨j0, hj, hy0, hy1, hy2⟩ := info_parts info48
  subst hlv
  have hlg : g < w.heap.size := by obtain ⟨cur, h1, _⟩ := hl; exact (Array.getElem?_eq_some_iff.1 h1).1
  have hgB : g ≠ B := fun e => hBl (by simp [Value.ownBlock, e])
  have hBs : B < w.heap.size := (Array.getElem?_eq_some_iff.1 hB).1
  have hcB : w.cell? ⟨B, 1, none⟩ = some L2 := by rw [cell_of_blk hB]; rfl
  have H2 := hide h2
  have HB := hide hB
  have HBl := hide hBl
  have HB2 := hide hB2
  have H2l := hide h2l
  obtain ⟨m, hm⟩ : ∃ m : Int, Hid (-7 - (q : Int) = m) := ⟨_, rfl⟩
  rw [hm.out]
  have HL : Hid (Half w g off n 0 (.int .i64 m)) := by obtain ⟨cur, h1, h2⟩ := hl; exact ⟨cur, h1, h2, fun j hj => by omega⟩
  clear h2 hl hB hBl hB2 h2l
  have hsh : ∃ ao c2, L2 = .slice ao N2 c2 := by
    rcases H2.out.2 with ⟨h, h'⟩ | ⟨g', c', cur, h, _⟩
    · exact ⟨none, 0, by rw [h, h']⟩
    · exact ⟨_, _, h⟩
  obtain ⟨ao, c2, hL2⟩ := hsh
  subst hL2
  go_enter Try.func21, Try.ntmps21
  go_wp2
  rw [hm.out]
  go_loopw [5] (fun i wr => ∃ k : Nat, k ≤ n ∧ i = .int .i64 (k : Int) ∧ Half wr g off n k (.int .i64 m) ∧ w.grownBy wr (some g)) (fun i _ => n - (intOf i).toNat)
  case atStart => exact ⟨0, Nat.zero_le _, rfl, HL.out, World.grownBy.refl _ _⟩
  case round =>
    obtain ⟨k, hk, rfl, hown, hgr⟩ := hrel
    by_cases hlt : k < n
    · obtain ⟨⟨u0, hu⟩, hfr, hst⟩ := hown.step hlt
      have HS := hide (And.intro hst (hgr.trans (grown_set wr g (off + k) (.int .i64 m))))
      clear hst hown hgr
      go_wp2
      go_roundw
      case rel => exact ⟨k + 1, by omega, by go_num, HS.out.1, HS.out.2⟩
      case measure => simp [intOf]; omega
    · have hke : k = n := by omega
      rw [hke] at hown
      have HOW := hide (Half.mk (c := n) hown)
      have HGR := hide hgr
      have hgl : g < wr.heap.size := by have := hgr.size; omega
      obtain ⟨v1, w1, hr1, ho1, hg1⟩ := run_append_arg_grows (P := Try.prog) (wr.alloc (.cells #[.int .i64 m] 3)) 48 48 3 i0 (.int .i64 0) 1 8 Try.underlying48 hi hz0 hz1 hz2 rfl (by decide) ⟨g, off, none⟩ n n (List.replicate n (.int .i64 m)) (by simp) (by
          intro j u hju
          have hjn : j < n := by have := (List.getElem?_eq_some_iff.1 hju).1; simpa using this
          obtain rfl : Value.int .i64 m = u := by simpa [hjn] using hju
          rw [addr_add]
          rcases HOW.out with ⟨h, _⟩ | ⟨g', o', c', h, hc⟩
          · cases h
          · obtain ⟨⟨rfl, rfl⟩, _⟩ : (g = g' ∧ off = o') ∧ n = c' := by simpa using h
            rw [World.cell?_alloc_lt _ _ _ hgl]
            exact hc j hjn) ⟨wr.heap.size, 0, none⟩ 1 1 [.int .i64 m] rfl (news_of wr [.int .i64 m]) (by omega) (by unfold maxLen; omega) (by omega)
      obtain ⟨g1, c1, rfl, hg1b, _⟩ := ho1.form (by omega)
      have F1 := hide (And.intro (own0 ho1) (And.intro hg1 (show wr.heap.size + 1 ≤ g1 by simpa using hg1b)))
      have S1 := hide F1.out.1
      rw [rep_snoc] at S1
      have HR1 := hide hr1
      clear hown hgr hke HL hr1 ho1 hg1 hg1b hgl
      have tok1 : True := trivial
      have tok2 : True := trivial
      have tok3 : True := trivial
      go_wp2_with (first
        | (at_builtin; have _t := tok1; go_must (refine wpList_append_run rfl (.tmp 26) (.tmp 28) 48 rfl _ _ _ w1 rfl rfl HR1.out ?_); clear tok1)
        | (at_builtin; have _t := tok2; go_must (refine wpList_append_keeps _ rfl (.tmp 30) (.tmp 32) 48 rfl 0 3 i0 (.int .i64 0) 1 8 Try.underlying48 hi hz0 hz1 hz2 rfl (by decide) (.slice (some ⟨g1, 0, none⟩) (n + 1) c1) (n + 1) _ rfl (S1.out.alloc _) ⟨w1.heap.size, 0, none⟩ 1 1 [.int .i64 m] rfl rfl (news_of w1 [.int .i64 m]) (by simp [Value.oneCell']) (by omega) (by unfold maxLen; omega) (by omega) (Nat.zero_le _) ?_); intro g2 c3 w2 O2 K2 G2 A2 T2; go_must (have F2 := hide (And.intro O2 (And.intro K2 (And.intro G2 (And.intro A2 T2))))); clear tok2 O2 K2 G2 A2 T2; go_must (have S2 := hide F2.out.1; rw [rep_snoc] at S2))
        | (at_builtin; have _t := tok3; go_must (refine wpList_append_keeps _ rfl (.tmp 34) (.tmp 36) 48 rfl 0 3 i0 (.int .i64 0) 1 8 Try.underlying48 hi hz0 hz1 hz2 rfl (by decide) (.slice (some ⟨g2, 0, none⟩) (n + 2) c3) (n + 2) _ rfl (S2.out.alloc _) ⟨w2.heap.size, 0, none⟩ 1 1 [.int .i64 m] rfl rfl (news_of w2 [.int .i64 m]) (by simp [Value.oneCell']) (by omega) (by unfold maxLen; omega) (by omega) (Nat.zero_le _) ?_); intro g3 c4 w3 O3 K3 G3 A3 T3; go_must (have F3 := hide (And.intro O3 (And.intro K3 (And.intro G3 (And.intro A3 T3))))); clear tok3 O3 K3 G3 A3 T3; go_must (have T := hide (three_full (g1 := g1) (g2 := g2) (g3 := g3) HGR.out hlg HOW.out F1.out.1 F1.out.2.1 F1.out.2.2 F2.out.1 (by have := F2.out.2.1; simpa using this) F2.out.2.2.1 (by simpa [Value.ownBlock] using F2.out.2.2.2.1) F3.out.1 (by have := F3.out.2.1; simpa using this) F3.out.2.2.1 (by simpa [Value.ownBlock] using F3.out.2.2.2.1))); go_must (have HB3 := hide (T.out.cellB HB.out HBl.out)); go_must (have hcB3 : w3.cell? ⟨B, 1, none⟩ = some (.slice ao N2 c2) := by rw [cell_of_blk HB3.out]; rfl))
        | (at_builtin; go_must (refine wpList_append_keeps _ rfl (.tmp 42) (.tmp 47) 34 rfl 0 48 j0 (.slice none 0 0) 1 24 Try.underlying34 hj hy0 hy1 hy2 rfl (by decide) (.slice ao N2 c2) N2 rows rfl ((T.out.own2 H2l.out H2.out).alloc _) ⟨w3.heap.size, 0, none⟩ 4 4 [.slice (some ⟨g, off, none⟩) n n, .slice (some ⟨g1, 0, none⟩) (n + 1) c1, .slice (some ⟨g2, 0, none⟩) (n + 2) c3, .slice (some ⟨g3, 0, none⟩) (n + 3) c4] rfl rfl (news_ofT w3 48 _) (by simp [Value.oneCell']) (by omega) (by unfold maxLen; omega) (by omega) (Nat.zero_le _) ?_); intro g4 c5 w4 O4 K4 G4 A4 T4; go_must (have F4 := hide (And.intro O4 (And.intro G4 A4))); go_must (have HB4 := hide (blk4 HB3.out G4 HB2.out)); clear O4 K4 G4 A4 T4; go_must (have hcB4 : w4.cell? ⟨B, 1, none⟩ = some (.slice ao N2 c2) := by rw [cell_of_blk HB4.out]; rfl); go_must (have hfB4 := frozen_of_blk HB4.out 1)))
      go_end0
      refine ⟨rfl, numPost_mk T.out HB.out HBl.out HB2.out H2l.out H2.out F4.out.1 F4.out.2.1 ?_⟩
      intro k hk
      obtain rfl : g4 = k := by simpa [Value.ownBlock] using hk
      simpa using F4.out.2.2

set_option maxRecDepth 100000 in
set_option maxHeartbeats 1600000 in
theorem numbers_nil (L2 : Value) (B : Nat) (l1 l3 l4 l5 l6 : Value) (N2 q : Nat) (rows : List Value) (w : World)
    (hB : w.heap[B]? = some (.cells #[l1, L2, l3, l4, l5, l6] 39 (0, 0))) (h2 : w.ownsRow 0 48 1 L2 N2 rows) (hq : (N2 : Int) / 4 = (q : Int)) (hN2 : N2 ≤ 100) (hq1 : q ≤ 25)
    (hB2 : L2.ownBlock ≠ some B) :
    Calls Try.prog 21 #[.pointer (some ⟨B, 0, none⟩), .slice none 0 0] w fun e w' => e = .returned (.tuple #[]) ∧ NumPost w w' B l1 l3 l4 l5 l6 L2 N2 rows (.slice none 0 0) 0 (.int .i64 (-7 - (q : Int))) := by
  obtain ⟨i0, hi, hz0, hz1, hz2⟩ := info_parts info3
  obtain ⟨j0, hj, hy0, hy1, hy2⟩ := info_parts info48
  have hBl : (Value.slice none 0 0).ownBlock ≠ some B := by simp [Value.ownBlock]
  have h2l : L2.ownBlock = none ∨ L2.ownBlock ≠ (Value.slice none 0 0).ownBlock := by cases h : L2.ownBlock <;> simp [Value.ownBlock]
  have hBs : B < w.heap.size := (Array.getElem?_eq_some_iff.1 hB).1
  have hcB : w.cell? ⟨B, 1, none⟩ = some L2 := by rw [cell_of_blk hB]; rfl
  have H2 := hide h2
  have HB := hide hB
  have HBl := hide hBl
  have HB2 := hide hB2
  have H2l := hide h2l
  clear h2 hB hBl hB2 h2l
  obtain ⟨m, hm⟩ : ∃ m : Int, Hid (-7 - (q : Int) = m) := ⟨_, rfl⟩
  rw [hm.out]
  have hsh : ∃ ao c2, L2 = .slice ao N2 c2 := by
    rcases H2.out.2 with ⟨h, h'⟩ | ⟨g', c', cur, h, _⟩
    · exact ⟨none, 0, by rw [h, h']⟩
    · exact ⟨_, _, h⟩
  obtain ⟨ao, c2, hL2⟩ := hsh
  subst hL2
  go_enter Try.func21, Try.ntmps21
  go_wp2
  rw [hm.out]
  have HOW : Hid (w.ownsRow 0 3 1 (.slice none 0 0) 0 (List.replicate 0 (.int .i64 m))) := World.ownsRow_nil _ _ _ _
  have HGR : Hid (w.grownBy w (Value.slice none 0 0).ownBlock) := World.grownBy.refl _ _
  refine wp_loop_rounds 1 ?_
  rw [rounds_succ]
  have tok1 : True := trivial
  have tok2 : True := trivial
  have tok3 : True := trivial
  go_wp2_with (first
    | (at_builtin; have _t := tok1; go_must (refine wpList_append_keeps _ rfl (.tmp 26) (.tmp 28) 48 rfl 0 3 i0 (.int .i64 0) 1 8 Try.underlying48 hi hz0 hz1 hz2 rfl (by decide) (Value.slice none 0 0) 0 _ rfl (HOW.out.alloc _) ⟨w.heap.size, 0, none⟩ 1 1 [.int .i64 m] rfl rfl (news_of w [.int .i64 m]) (by simp [Value.oneCell']) (by omega) (by unfold maxLen; omega) (by omega) (Nat.zero_le _) ?_); intro g1 c1 w1 O1 K1 G1 A1 T1; go_must (have F1 := hide (And.intro O1 (And.intro K1 (And.intro G1 (And.intro A1 T1))))); clear tok1 O1 K1 G1 A1 T1; go_must (have S1 := hide F1.out.1; rw [rep_snoc] at S1))
    | (at_builtin; have _t := tok2; go_must (refine wpList_append_keeps _ rfl (.tmp 30) (.tmp 32) 48 rfl 0 3 i0 (.int .i64 0) 1 8 Try.underlying48 hi hz0 hz1 hz2 rfl (by decide) (.slice (some ⟨g1, 0, none⟩) (0 + 1) c1) (0 + 1) _ rfl (S1.out.alloc _) ⟨w1.heap.size, 0, none⟩ 1 1 [.int .i64 m] rfl rfl (news_of w1 [.int .i64 m]) (by simp [Value.oneCell']) (by omega) (by unfold maxLen; omega) (by omega) (Nat.zero_le _) ?_); intro g2 c3 w2 O2 K2 G2 A2 T2; go_must (have F2 := hide (And.intro O2 (And.intro K2 (And.intro G2 (And.intro A2 T2))))); clear tok2 O2 K2 G2 A2 T2; go_must (have S2 := hide F2.out.1; rw [rep_snoc] at S2))
    | (at_builtin; have _t := tok3; go_must (refine wpList_append_keeps _ rfl (.tmp 34) (.tmp 36) 48 rfl 0 3 i0 (.int .i64 0) 1 8 Try.underlying48 hi hz0 hz1 hz2 rfl (by decide) (.slice (some ⟨g2, 0, none⟩) (0 + 2) c3) (0 + 2) _ rfl (S2.out.alloc _) ⟨w2.heap.size, 0, none⟩ 1 1 [.int .i64 m] rfl rfl (news_of w2 [.int .i64 m]) (by simp [Value.oneCell']) (by omega) (by unfold maxLen; omega) (by omega) (Nat.zero_le _) ?_); intro g3 c4 w3 O3 K3 G3 A3 T3; go_must (have F3 := hide (And.intro O3 (And.intro K3 (And.intro G3 (And.intro A3 T3))))); clear tok3 O3 K3 G3 A3 T3; go_must (have T := hide (three (g1 := g1) (g2 := g2) (g3 := g3) HGR.out F1.out.1 F1.out.2.1 F1.out.2.2.1 (by simpa [Value.ownBlock] using F1.out.2.2.2.1) F2.out.1 (by have := F2.out.2.1; simpa using this) F2.out.2.2.1 (by simpa [Value.ownBlock] using F2.out.2.2.2.1) F3.out.1 (by have := F3.out.2.1; simpa using this) F3.out.2.2.1 (by simpa [Value.ownBlock] using F3.out.2.2.2.1))); go_must (have HB3 := hide (T.out.cellB HB.out HBl.out)); go_must (have hcB3 : w3.cell? ⟨B, 1, none⟩ = some (.slice ao N2 c2) := by rw [cell_of_blk HB3.out]; rfl))
    | (at_builtin; go_must (refine wpList_append_keeps _ rfl (.tmp 42) (.tmp 47) 34 rfl 0 48 j0 (.slice none 0 0) 1 24 Try.underlying34 hj hy0 hy1 hy2 rfl (by decide) (.slice ao N2 c2) N2 rows rfl ((T.out.own2 H2l.out H2.out).alloc _) ⟨w3.heap.size, 0, none⟩ 4 4 [Value.slice none 0 0, .slice (some ⟨g1, 0, none⟩) (0 + 1) c1, .slice (some ⟨g2, 0, none⟩) (0 + 2) c3, .slice (some ⟨g3, 0, none⟩) (0 + 3) c4] rfl rfl (news_ofT w3 48 _) (by simp [Value.oneCell']) (by omega) (by unfold maxLen; omega) (by omega) (Nat.zero_le _) ?_); intro g4 c5 w4 O4 K4 G4 A4 T4; go_must (have F4 := hide (And.intro O4 (And.intro G4 A4))); go_must (have HB4 := hide (blk4 HB3.out G4 HB2.out)); clear O4 K4 G4 A4 T4; go_must (have hcB4 : w4.cell? ⟨B, 1, none⟩ = some (.slice ao N2 c2) := by rw [cell_of_blk HB4.out]; rfl); go_must (have hfB4 := frozen_of_blk HB4.out 1)))
  go_end0
  refine ⟨rfl, numPost_mk T.out HB.out HBl.out HB2.out H2l.out H2.out F4.out.1 F4.out.2.1 ?_⟩
  intro k hk
  obtain rfl : g4 = k := by simpa [Value.ownBlock] using hk
  simpa using F4.out.2.2

end Go.Proofs.Ytoafiieciiijbaa
