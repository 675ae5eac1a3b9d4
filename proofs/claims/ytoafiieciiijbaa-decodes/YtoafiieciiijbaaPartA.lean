/-
  OUR OWN: the book's lists of parts.
-/
import Derived.Test.YtoafiieciiijbaaPathJ
import Derived.Test.YtoafiieciiijbaaItemE
namespace Go.Proofs.Ytoafiieciiijbaa
open Go.RowKit

theorem infoPs : (Try.prog.info? 22).map (fun i => (i.zero, i.size, i.bytes)) = some (some (.slice none 0 0), 1, 24) := by kernel_rfl

/-- k marks, three cells each -/
def rep3 (k : Nat) (m : Value) : List Value := (List.replicate k [.bool false, m, .string ⟨#[]⟩]).flatten
theorem rep3_snoc (k : Nat) (m : Value) : rep3 k m ++ [.bool false, m, .string ⟨#[]⟩] = rep3 (k + 1) m := by
  simp [rep3, List.replicate_succ']
theorem rep3_length (k : Nat) (m : Value) : (rep3 k m).length = k * 3 := by
  simp [rep3]
theorem rep3_get (m : Value) : ∀ (k j : Nat), j < k → (rep3 k m)[j * 3]? = some (.bool false) ∧ (rep3 k m)[j * 3 + 1]? = some m ∧ (rep3 k m)[j * 3 + 2]? = some (.string ⟨#[]⟩)
  | 0, j, h => by omega
  | k + 1, j, h => by
    rw [← rep3_snoc]
    have hl := rep3_length k m
    by_cases h1 : j < k
    · rw [List.getElem?_append_left (by omega), List.getElem?_append_left (by omega), List.getElem?_append_left (by omega)]
      exact rep3_get m k j h1
    · obtain rfl : j = k := by omega
      rw [List.getElem?_append_right (by omega), List.getElem?_append_right (by omega), List.getElem?_append_right (by omega), hl, Nat.sub_self, show j * 3 + 1 - j * 3 = 1 from by omega, show j * 3 + 2 - j * 3 = 2 from by omega]
      exact ⟨rfl, rfl, rfl⟩
theorem rep3_step (n k : Nat) (xs : List Value) (m : Value) (hl : xs.length = n * 3) (h : k < n) : (((rep3 k m ++ xs.drop (k * 3)).set (k * 3) (.bool false)).set (k * 3 + 1) m).set (k * 3 + 2) (.string ⟨#[]⟩) = rep3 (k + 1) m ++ xs.drop ((k + 1) * 3) := by
  have hr := rep3_length k m
  obtain ⟨a, b, c, ys, hx⟩ : ∃ a b c ys, xs.drop (k * 3) = a :: b :: c :: ys := by
    have h3 : 3 ≤ (xs.drop (k * 3)).length := by rw [List.length_drop]; omega
    match hd : xs.drop (k * 3), h3 with
    | a :: b :: c :: ys, _ => exact ⟨a, b, c, ys, rfl⟩
  have hy : xs.drop ((k + 1) * 3) = ys := by
    rw [show (k + 1) * 3 = k * 3 + 3 from by omega, ← List.drop_drop, hx]; rfl
  rw [hy, hx, ← rep3_snoc, List.append_assoc]
  rw [List.set_append_right _ _ (by omega), hr, Nat.sub_self]
  rw [List.set_append_right _ _ (by omega), hr, show k * 3 + 1 - k * 3 = 1 from by omega]
  rw [List.set_append_right _ _ (by omega), hr, show k * 3 + 2 - k * 3 = 2 from by omega]
  rfl

/-- a list of k marks -/
def Mk3 (w : World) (v : Value) (k : Nat) (m : Value) : Prop := (v = .slice none 0 0 ∧ k = 0) ∨ ∃ g c, v = .slice (some ⟨g, 0, none⟩) k c ∧ ∀ j u, (rep3 k m)[j]? = some u → w.cell? ⟨g, j, none⟩ = some u
theorem rep3_lt {k j : Nat} {m u : Value} (h : (rep3 k m)[j]? = some u) : j < k * 3 := by
  have := (List.getElem?_eq_some_iff.1 h).1
  rwa [rep3_length] at this
theorem rep3_pre {m : Value} : ∀ {n k j : Nat} {u : Value}, k ≤ n → (rep3 k m)[j]? = some u → (rep3 n m)[j]? = some u
  | 0, k, j, u, hk, h => by obtain rfl : k = 0 := by omega
                            exact h
  | n + 1, k, j, u, hk, h => by
    by_cases e : k = n + 1
    · subst e; exact h
    · have h2 := rep3_pre (n := n) (by omega) h
      rw [← rep3_snoc, List.getElem?_append_left (by have := rep3_lt h2; rw [rep3_length]; exact this)]
      exact h2
theorem Mk3.own {w : World} {base e : Nat} {v : Value} {k : Nat} {m : Value} (h : w.ownsRow base e 3 v k (rep3 k m)) : Mk3 w v k m := by
  rcases h.2 with ⟨rfl, rfl⟩ | ⟨g, cap, cur, rfl, _⟩
  · exact .inl ⟨rfl, rfl⟩
  · refine .inr ⟨g, cap, rfl, fun j u hj => ?_⟩
    rw [h.cellAt j (rep3_lt hj)]
    exact hj
theorem Mk3.grown {w w' : World} {base e : Nat} {v u : Value} {k n : Nat} {m : Value} (h : Mk3 w u k m) (ho : w'.ownsRow base e 3 v n (rep3 n m)) (hkn : k ≤ n) (hg : w.grownBy w' v.ownBlock) : Mk3 w' u k m := by
  rcases h with h | ⟨g, c, rfl, hc⟩
  · exact .inl h
  · refine .inr ⟨g, c, rfl, fun j x hj => ?_⟩
    by_cases e : some g = v.ownBlock
    · rcases ho.2 with ⟨rfl, rfl⟩ | ⟨g', cap', cur, rfl, _⟩
      · have := rep3_lt hj; omega
      · obtain rfl : g = g' := by simpa [Value.ownBlock] using e
        have := rep3_lt hj
        rw [ho.cellAt j (by omega)]
        exact rep3_pre hkn hj
    · rw [hg.cell_far ⟨g, j, none⟩ (World.block_lt_of_cell? w _ (hc j x hj)) e]
      exact hc j x hj
theorem Mk3.far {w w' : World} {u : Value} {k : Nat} {m : Value} (h : Mk3 w u k m) (hs : ∀ g, u.ownBlock = some g → g < w.heap.size → w'.heap[g]? = w.heap[g]?) : Mk3 w' u k m := by
  rcases h with h | ⟨g, c, rfl, hc⟩
  · exact .inl h
  · refine .inr ⟨g, c, rfl, fun j x hj => ?_⟩
    rw [World.cell?_of_block (w := w) (a := ⟨g, j, none⟩) (hs g rfl (World.block_lt_of_cell? w _ (hc j x hj)))]
    exact hc j x hj

/-- the world behind (*Book).numbers -/
structure PartPost (w w' : World) (B : Nat) (l2 l3 l4 l5 l6 : Value) (L2 : Value) (N2 : Nat) (rows : List Value) (lv : Value) (n : Nat) (m : Value) : Prop where
  ends : ∃ L2' x y z, w'.heap[B]? = some (.cells #[L2', l2, l3, l4, l5, l6] 39 (0, 0)) ∧ w'.ownsRow 0 22 1 L2' (N2 + 4) (rows ++ [lv, x, y, z]) ∧ Mk3 w' lv n m ∧ Mk3 w' x (n + 1) m ∧ Mk3 w' y (n + 2) m ∧ Mk3 w' z (n + 3) m ∧
    (∀ u, u = lv ∨ u = x ∨ u = y ∨ u = z → ∀ k, u.ownBlock = some k → k ≠ B ∧ k < w'.heap.size ∧ L2'.ownBlock ≠ some k ∧ (lv.ownBlock = some k ∨ w.heap.size ≤ k)) ∧ (∀ k, L2'.ownBlock = some k → k ≠ B ∧ k < w'.heap.size ∧ (L2.ownBlock = some k ∨ w.heap.size ≤ k))
  os : w'.os = w.os
  tape : w'.tape = w.tape
  output : w'.output = w.output
  size : w.heap.size ≤ w'.heap.size
  far : ∀ k, k < w.heap.size → k ≠ B → some k ≠ lv.ownBlock → some k ≠ L2.ownBlock → w'.heap[k]? = w.heap[k]?

/-- the frames of the three3 appends, joined -/
structure Three3 (w wr w1 w2 w3 : World) (lv x y z : Value) (n : Nat) (m : Value) : Prop where
  a3 : w.grownBy w3 lv.ownBlock
  ml : Mk3 w3 lv n m
  mx : Mk3 w3 x (n + 1) m
  my : Mk3 w3 y (n + 2) m
  mz : Mk3 w3 z (n + 3) m
  bx : ∀ k, x.ownBlock = some k → lv.ownBlock = some k ∨ w.heap.size ≤ k
  by' : ∀ k, y.ownBlock = some k → lv.ownBlock = some k ∨ w.heap.size ≤ k
  bz : ∀ k, z.ownBlock = some k → lv.ownBlock = some k ∨ w.heap.size ≤ k
  lx : ∀ u, u = lv ∨ u = x ∨ u = y ∨ u = z → ∀ k, u.ownBlock = some k → k < w3.heap.size

theorem three3 {w wr w1 w2 w3 : World} {o1 o2 o3 : Obj} {lv : Value} {n g1 c1 g2 c2 g3 c3 : Nat} {m : Value} (hg : w.grownBy wr lv.ownBlock) 
    (O1 : w1.ownsRow 0 24 3 (.slice (some ⟨g1, 0, none⟩) (n + 1) c1) (n + 1) (rep3 n m ++ [.bool false, m, .string ⟨#[]⟩])) (K1 : w1.ownsRow 0 24 3 lv n (rep3 n m)) (G1 : (wr.alloc o1).grownBy w1 lv.ownBlock) (A1 : lv.ownBlock = some g1 ∨ g1 = wr.heap.size + 1)
    (O2 : w2.ownsRow 0 24 3 (.slice (some ⟨g2, 0, none⟩) (n + 2) c2) (n + 2) (rep3 (n + 1) m ++ [.bool false, m, .string ⟨#[]⟩])) (K2 : w2.ownsRow 0 24 3 (.slice (some ⟨g1, 0, none⟩) (n + 1) c1) (n + 1) (rep3 (n + 1) m)) (G2 : (w1.alloc o2).grownBy w2 (some g1)) (A2 : g1 = g2 ∨ g2 = w1.heap.size + 1)
    (O3 : w3.ownsRow 0 24 3 (.slice (some ⟨g3, 0, none⟩) (n + 3) c3) (n + 3) (rep3 (n + 2) m ++ [.bool false, m, .string ⟨#[]⟩])) (K3 : w3.ownsRow 0 24 3 (.slice (some ⟨g2, 0, none⟩) (n + 2) c2) (n + 2) (rep3 (n + 2) m)) (G3 : (w2.alloc o3).grownBy w3 (some g2)) (A3 : g2 = g3 ∨ g3 = w2.heap.size + 1) :
    Three3 w wr w1 w2 w3 lv (.slice (some ⟨g1, 0, none⟩) (n + 1) c1) (.slice (some ⟨g2, 0, none⟩) (n + 2) c2) (.slice (some ⟨g3, 0, none⟩) (n + 3) c3) n m := by
  have s0 := hg.size
  have B1 : w.grownBy w1 lv.ownBlock := (hg.andThen (World.grownBy_alloc wr o1 lv.ownBlock) (fun j e => .inr e)).andThen G1 (fun j e => .inr e)
  have q1 : lv.ownBlock = some g1 ∨ w.heap.size ≤ g1 := by rcases A1 with h | h; exact .inl h; right; omega
  have s1 := B1.size
  have B2 : w.grownBy w2 lv.ownBlock := (B1.andThen (World.grownBy_alloc w1 o2 lv.ownBlock) (fun j e => .inr e)).andThen G2 (fun j e => by
    obtain rfl : g1 = j := by simpa using e
    rcases q1 with h | h; exact .inr h; exact .inl h)
  have q2 : lv.ownBlock = some g2 ∨ w.heap.size ≤ g2 := by rcases A2 with h | h; rw [← h]; exact q1; right; omega
  have s2 := B2.size
  have B3 : w.grownBy w3 lv.ownBlock := (B2.andThen (World.grownBy_alloc w2 o3 lv.ownBlock) (fun j e => .inr e)).andThen G3 (fun j e => by
    obtain rfl : g2 = j := by simpa using e
    rcases q2 with h | h; exact .inr h; exact .inl h)
  have q3 : lv.ownBlock = some g3 ∨ w.heap.size ≤ g3 := by rcases A3 with h | h; rw [← h]; exact q2; right; omega
  rw [rep3_snoc] at O1 O2 O3
  have ml1 : Mk3 w1 lv n m := Mk3.own K1
  have mx1 : Mk3 w1 (.slice (some ⟨g1, 0, none⟩) (n + 1) c1) (n + 1) m := Mk3.own O1
  have al : ∀ {w : World} {u : Value} {k : Nat} (o : Obj), Mk3 w u k m → Mk3 (w.alloc o) u k m := fun o h => h.far (fun g _ hlt => Below.heap_alloc _ o g hlt)
  have ml2 : Mk3 w2 lv n m := (al o2 ml1).grown K2 (by omega) G2
  have mx2 : Mk3 w2 (.slice (some ⟨g1, 0, none⟩) (n + 1) c1) (n + 1) m := (al o2 mx1).grown K2 (by omega) G2
  have my2 : Mk3 w2 (.slice (some ⟨g2, 0, none⟩) (n + 2) c2) (n + 2) m := Mk3.own O2
  exact ⟨B3, (al o3 ml2).grown K3 (by omega) G3, (al o3 mx2).grown K3 (by omega) G3, (al o3 my2).grown K3 (by omega) G3, Mk3.own O3,
    fun k e => by obtain rfl : g1 = k := by simpa [Value.ownBlock] using e
                  exact q1,
    fun k e => by obtain rfl : g2 = k := by simpa [Value.ownBlock] using e
                  exact q2,
    fun k e => by obtain rfl : g3 = k := by simpa [Value.ownBlock] using e
                  exact q3,
    fun u hu k e => by
      have t2 := G2.size
      have t3 := G3.size
      simp at t2 t3
      rcases hu with rfl | rfl | rfl | rfl
      · have := (K1.lt k e).2; omega
      · have := (O1.lt k e).2; omega
      · have := (O2.lt k e).2; omega
      · exact (O3.lt k e).2⟩

theorem Three3.own2 {w wr w1 w2 w3 : World} {L2 lv x y z : Value} {N2 n : Nat} {rows : List Value} {m : Value} (T : Three3 w wr w1 w2 w3 lv x y z n m) (h2l : L2.ownBlock = none ∨ L2.ownBlock ≠ lv.ownBlock) (h2 : w.ownsRow 0 22 1 L2 N2 rows) : w3.ownsRow 0 22 1 L2 N2 rows :=
  own_far h2 (fun k e _ => T.a3.block k (h2.lt k e).2 (fun e2 => h2l.elim (fun h => by rw [h] at e; cases e) (fun h => h (e.trans e2))))
theorem Three3.cellB {w wr w1 w2 w3 : World} {lv x y z L2 l2 l3 l4 l5 l6 : Value} {B n : Nat} {m : Value} (T : Three3 w wr w1 w2 w3 lv x y z n m) (hB : w.heap[B]? = some (.cells #[L2, l2, l3, l4, l5, l6] 39 (0, 0))) (hBl : lv.ownBlock ≠ some B) :
    w3.heap[B]? = some (.cells #[L2, l2, l3, l4, l5, l6] 39 (0, 0)) := by
  rw [T.a3.block B (Array.getElem?_eq_some_iff.1 hB).1 (fun e => hBl e.symm)]; exact hB

/-- the end: the book's list has grown by four -/
theorem partPost_mk {w wr w1 w2 w3 w4 : World} {B : Nat} {l2 l3 l4 l5 l6 L2 L2' lv x y z : Value} {N2 n : Nat} {rows : List Value} {m : Value} {o4 : Obj} (T : Three3 w wr w1 w2 w3 lv x y z n m)
    (hB : w.heap[B]? = some (.cells #[L2, l2, l3, l4, l5, l6] 39 (0, 0))) (hBl : lv.ownBlock ≠ some B) (hB2 : L2.ownBlock ≠ some B) (h2l : L2.ownBlock = none ∨ L2.ownBlock ≠ lv.ownBlock) (h2 : w.ownsRow 0 22 1 L2 N2 rows)
    (O4 : w4.ownsRow 0 22 1 L2' (N2 + 4) (rows ++ [lv, x, y, z])) (G4 : (w3.alloc o4).grownBy w4 L2.ownBlock) (A4 : ∀ k, L2'.ownBlock = some k → L2.ownBlock = some k ∨ k = w3.heap.size + 1) :
    PartPost w (w4.setCell ⟨B, 0, none⟩ L2') B l2 l3 l4 l5 l6 L2 N2 rows lv n m := by
  have hBs : B < w.heap.size := (Array.getElem?_eq_some_iff.1 hB).1
  have s3 := T.a3.size
  have s4 : w3.heap.size + 1 ≤ w4.heap.size := by have := G4.size; simpa using this
  have sets : ∀ k, k ≠ B → (w4.setCell ⟨B, 0, none⟩ L2').heap[k]? = w4.heap[k]? := fun k hk => Below.heap_setCell _ _ _ _ hk
  have b4 : ∀ k, k < w3.heap.size → some k ≠ L2.ownBlock → w4.heap[k]? = w3.heap[k]? := fun k hk hne => by
    rw [G4.block k (by simp; omega) hne]; exact Below.heap_alloc _ _ _ hk
  have hBw4 : w4.heap[B]? = w.heap[B]? := by
    rw [b4 B (by omega) (fun e => hB2 e.symm)]; exact T.a3.block B hBs (fun e => hBl e.symm)
  have h2lt : ∀ k, L2.ownBlock = some k → k < w.heap.size := fun k hk => (h2.lt k hk).2
  have nl2 : ∀ k, (lv.ownBlock = some k ∨ w.heap.size ≤ k) → some k ≠ L2.ownBlock := by
    intro k hk e
    rcases hk with h | h
    · rcases h2l with h' | h'
      · rw [h'] at e; cases e
      · exact h' (by rw [h, ← e])
    · have := h2lt k e.symm; omega
  have nB : ∀ k, (lv.ownBlock = some k ∨ w.heap.size ≤ k) → k ≠ B := by
    intro k hk e
    subst e
    rcases hk with h | h
    · exact hBl h
    · omega
  have mk : ∀ {u : Value} {j : Nat}, Mk3 w3 u j m → (∀ k, u.ownBlock = some k → lv.ownBlock = some k ∨ w.heap.size ≤ k) → Mk3 (w4.setCell ⟨B, 0, none⟩ L2') u j m := by
    intro u j h hb
    refine h.far (fun g e hlt => ?_)
    rw [sets g (nB g (hb g e)), b4 g hlt (nl2 g (hb g e))]
  refine ⟨⟨L2', x, y, z, ?_, ?_, mk T.ml (fun k e => .inl e), mk T.mx T.bx, mk T.my T.by', mk T.mz T.bz, ?_, ?_⟩, ?_, ?_, ?_, ?_, ?_⟩
  · rw [hB] at hBw4
    rw [heap_setCell_same hBw4]; simp
  · refine own_far O4 (fun g e _ => sets g ?_)
    intro e2
    subst e2
    rcases A4 g e with h | h
    · exact hB2 h
    · omega
  · intro u hu k e
    have hq : lv.ownBlock = some k ∨ w.heap.size ≤ k := by
      rcases hu with rfl | rfl | rfl | rfl
      · exact .inl e
      · exact T.bx k e
      · exact T.by' k e
      · exact T.bz k e
    have hlt := T.lx u hu k e
    refine ⟨nB k hq, ?_, ?_, hq⟩
    · show k < (w4.heap.modify _ _).size
      rw [Array.size_modify]; omega
    · intro e2
      rcases A4 k e2 with h | h
      · exact nl2 k hq h.symm
      · omega
  · intro k e
    have hlt := (O4.lt k e).2
    refine ⟨?_, ?_, ?_⟩
    · intro e2
      subst e2
      rcases A4 k e with h | h
      · exact hB2 h
      · omega
    · show k < (w4.heap.modify _ _).size
      rw [Array.size_modify]; omega
    · rcases A4 k e with h | h
      · exact .inl h
      · right; omega
  · exact G4.os.trans T.a3.os
  · exact G4.tape.trans T.a3.tape
  · exact G4.output.trans T.a3.output
  · show w.heap.size ≤ (w4.heap.modify _ _).size
    rw [Array.size_modify]; omega
  · intro k hk h1 h2' h3
    rw [sets k h1, b4 k (by omega) h3]
    exact T.a3.block k hk h2'

end Go.Proofs.Ytoafiieciiijbaa
