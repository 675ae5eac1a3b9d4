/-
  OUR OWN: EaJ EaL MaA MaB MaC.
-/
import Derived.Test.YtgepjjebjhidiaaGreatDoorG33
import Derived.Test.YtgepjjebjhidiaaGreatDoorG21
import Derived.Test.YtgepjjebjhidiaaGreatDoorG29
namespace Go.Proofs.YtgepjjebjhidiaaGreatDoor
open Go.RowKit Go.Shelf

/-- a row's block holds texts alone -/
def StrRow (w : World) (e : TypeId) (v : Value) : Prop := ∀ g, v.ownBlock = some g → ∃ cur, w.heap[g]? = some (.cells cur e (0, 0)) ∧ ∀ x ∈ cur.toList, ∃ s, x = Value.string s
theorem zero_str (k : Nat) : ∀ x ∈ (Builtin.zeroCells #[.string e0, .string e0] k).toList, ∃ s, x = Value.string s := by
  intro x hx
  simp only [Builtin.zeroCells, Array.toList_map, List.mem_map] at hx
  obtain ⟨i, _, rfl⟩ := hx
  have h : i % 2 = 0 ∨ i % 2 = 1 := by omega
  refine ⟨e0, ?_⟩
  show #[Value.string e0, Value.string e0][i % 2]! = _
  rcases h with h | h <;> rw [h] <;> rfl
theorem run_append_str {P : Program} (w : World) (base : Nat) (t ty e : TypeId) (i : TypeInfo) (z : Value) (bytes : Nat) (ht : P.underlying t = some (.slice e)) (hi : P.info? e = some i) (hz : i.zero = some z)
    (hsize : i.size = 2) (hby : i.bytes = bytes) (hzc : z.cells = #[.string e0, .string e0])
    (v : Value) (n : Nat) (xs : List Value) (hown : w.ownsRow base e 2 v n xs) (hstr : StrRow w e v) (hxs : ∀ x ∈ xs, ∃ s, x = Value.string s)
    (a : Addr) (c : Nat) (x1 x2 : ByteArray) (hnews : ∀ j u, [Value.string x1, .string x2][j]? = some u → w.cell? (a.add j) = some u)
    (h63 : n + 1 ≤ maxLen) (hbytes : (n + 1) * bytes ≤ 140737488355328) (hbase : base ≤ w.heap.size) :
    ∃ g' c' w', (Builtin.append_ #[t, t] ty #[v, .slice (some a) 1 c]).run P w = .ok (.slice (some ⟨g', 0, none⟩) (n + 1) c') w' ∧ w'.ownsRow base e 2 (.slice (some ⟨g', 0, none⟩) (n + 1) c') (n + 1) (xs ++ [.string x1, .string x2]) ∧ w.grownBy w' v.ownBlock ∧ StrRow w' e (.slice (some ⟨g', 0, none⟩) (n + 1) c') := by
  have hl : [Value.string x1, .string x2].length = 1 * 2 := rfl
  have h1 : ∀ u ∈ [Value.string x1, .string x2], u.oneCell' = true := fun u hu => by
    simp at hu
    rcases hu with rfl | rfl <;> rfl
  have hns : ∀ u ∈ [Value.string x1, .string x2], ∃ s, u = Value.string s := fun u hu => by
    simp at hu
    rcases hu with rfl | rfl
    · exact ⟨_, rfl⟩
    · exact ⟨_, rfl⟩
  obtain ⟨v', w', hr, h2, h3, h4⟩ := run_append_own (P := P) w base t ty e i z 2 bytes ht hi hz hsize hby (by rw [hzc]; rfl) (by omega) v n xs hown a 1 c _ hl hnews h1 h63 hbytes hbase
  obtain ⟨g', c', rfl⟩ := ownsRow_succ h2
  refine ⟨g', c', w', hr, h2, h3, ?_⟩
  intro g hg
  obtain rfl : g' = g := by simpa [Value.ownBlock] using hg
  clear hg
  rcases hown.2 with ⟨rfl, rfl⟩ | ⟨g, cap, cur, rfl, hbg, hg, hnc, hcm, hcs, htake⟩
  · have hx : xs = [] := List.eq_nil_of_length_eq_zero (by simpa using hown.1)
    subst hx
    have hr2 := run_append_nil (P := P) w t ty e i z ht hi hz a 1 c _ (by rw [hsize]; rfl) hnews (by omega) (by omega) (by rw [hby]; omega)
    rw [hr2] at hr
    injection hr with hv hw
    injection hv with hv _ _
    injection hv with hv
    injection hv with hv
    subst hv
    subst hw
    refine ⟨_, heap_alloc_new w.drew _, fun x hx => ?_⟩
    rw [Array.toList_append, List.mem_append] at hx
    rcases hx with hx | hx
    · exact hns x hx
    · rw [hzc] at hx; exact zero_str _ x hx
  · by_cases hroom : n + 1 ≤ cap
    · have hfit : n * i.size + [Value.string x1, .string x2].length ≤ cur.size := by rw [hl, hcs, hsize]; omega
      have hr2 := run_append_room (P := P) w t ty e i ht hi g n cap cur hg a 1 c _ (by rw [hsize]; rfl) hnews h1 hroom hfit
      rw [hr2] at hr
      injection hr with hv hw
      injection hv with hv _ _
      injection hv with hv
      injection hv with hv
      subst hv
      subst hw
      obtain ⟨cur', k1, k2⟩ := hstr g rfl
      rw [hg] at k1
      injection k1 with k1
      injection k1 with k1 _ _
      subst k1
      refine ⟨_, setRow_heap w g cur _ e _ hg, fun x hx => ?_⟩
      simp only [List.append_assoc, List.mem_append] at hx
      rcases hx with hx | hx | hx
      · exact k2 x (List.mem_of_mem_take hx)
      · exact hns x hx
      · exact k2 x (List.mem_of_mem_drop hx)
    · have holds : ∀ j u, xs[j]? = some u → w.cell? ((⟨g, 0, none⟩ : Addr).add j) = some u := hown.cells (g := g) rfl
      have hr2 := run_append_grow (P := P) w t ty e i z ht hi hz ⟨g, 0, none⟩ n cap xs (by rw [hsize]; exact hown.1) holds a 1 c _ (by rw [hsize]; rfl) hnews (by omega) (by unfold maxLen at h63; omega) (growslice_fits (by omega) (by rw [hby]; exact hbytes))
      rw [hr2] at hr
      injection hr with hv hw
      injection hv with hv _ _
      injection hv with hv
      injection hv with hv
      subst hv
      subst hw
      refine ⟨_, heap_alloc_new w.drew _, fun x hx => ?_⟩
      simp only [Array.toList_append, List.append_assoc, List.mem_append] at hx
      rcases hx with hx | hx | hx
      · exact hxs x hx
      · exact hns x hx
      · rw [hzc] at hx; exact zero_str _ x hx
theorem wpListIn_append_run {F : Fence} {n : Nat} {P : Program} {w : World} {ops : Array Oper} {rest : List Oper} {o : Oper} {a : Act} {Q : Exit → Act → World → Prop} (hgd : o.guard = none) (s x : Operand) (t : TypeId)
    (hop : o.op = .call { callee := .builtin .append, args := #[s, x], argTypes := #[t, t] }) (v sv v' : Value) (w' : World) (hs : a.eval s = v) (hx : a.eval x = sv)
    (hrun : (Builtin.append_ #[t, t] o.type #[v, sv]).run P w = .ok v' w') (h : wpListIn F n P ops Q rest (a.put o.dst v') w') : wpListIn F n P ops Q (o :: rest) a w := by
  refine wpListIn_plain hgd fun K hK' => ?_
  unfold Oper.wpIn
  refine ⟨?_, ?_⟩
  · simp [Oper.about, hop, resolve, Target.leads, Sem.run_pure]
  · rw [Oper.semAt_plain F _ _ (by rw [hop]; intro c hc'; cases hc')]
    simp [execOp, hop, resolve, invoke, builtin, hs, hx, hrun, Result.andThen]
    exact hK' _ _ h
/-- pairs, as they lie in a row -/
def pairCells (xs : List (ByteArray × ByteArray)) : List Value := xs.flatMap fun x => [.string x.1, .string x.2]
theorem pairCells_snoc (xs : List (ByteArray × ByteArray)) (x : ByteArray × ByteArray) : pairCells (xs ++ [x]) = pairCells xs ++ [.string x.1, .string x.2] := by simp [pairCells]
theorem pairCells_str (xs : List (ByteArray × ByteArray)) : ∀ x ∈ pairCells xs, ∃ s, x = Value.string s := fun x hx => by
  obtain ⟨y, _, h⟩ := List.mem_flatMap.1 hx
  simp at h
  rcases h with rfl | rfl
  · exact ⟨_, rfl⟩
  · exact ⟨_, rfl⟩
theorem infoPair : (Tryz.prog.info? 32).map (fun i => (i.zero, i.size, i.bytes)) = some (some (.agg #[.string ⟨#[]⟩, .string ⟨#[]⟩]), 2, 32) := by kernel_rfl
/-- Each's own: the box fb, its row -/
structure EaI (w0 : World) (fb : Nat) (pre : List (ByteArray × ByteArray)) (W : World) : Prop where
  bel : Below w0.heap.size w0 W
  own : ∃ v, W.heap[fb]? = some (.cells #[v] 22 (0, 0)) ∧ W.ownsRow (fb + 1) 32 2 v pre.length (pairCells pre) ∧ StrRow W 32 v
theorem EaI.turn {w0 : World} {fb B : Nat} {pre : List (ByteArray × ByteArray)} {A A' : World} (h : EaI w0 fb pre A) (hB : w0.heap.size ≤ B) (ht : Turned B A A') : EaI w0 fb pre A' := by
  obtain ⟨v, h1, h2, h3⟩ := h.own
  refine ⟨⟨ht.os.trans h.bel.os, ht.tape.trans h.bel.tape, ht.output.trans h.bel.output, Nat.le_trans h.bel.size ht.size, fun k hk => ?_⟩, v, ht.same _ _ h1 (.inr rfl), ⟨h2.1, ?_⟩, fun g hg => ?_⟩
  · rw [← h.bel.block k hk]
    have hlt : k < A.heap.size := Nat.lt_of_lt_of_le hk h.bel.size
    rw [Array.getElem?_eq_getElem hlt]
    exact ht.same k _ (Array.getElem?_eq_getElem hlt) (.inl (by omega))
  · rcases h2.2 with h4 | ⟨g, c, cur, k1, k2, k3, k4⟩
    · exact .inl h4
    · exact .inr ⟨g, c, cur, k1, k2, ht.same _ _ k3 (.inr rfl), k4⟩
  · obtain ⟨cur, k1, k2⟩ := h3 g hg
    exact ⟨cur, ht.same _ _ k1 (.inr rfl), k2⟩
/-- behind an append and its store -/
theorem ea_fin {w0 W w1 : World} {fb B : Nat} {pre : List (ByteArray × ByteArray)} {x : ByteArray × ByteArray} {v : Value} {g' c' : Nat} {tc : Array Value} (hw0 : w0.heap.size ≤ fb) (hfb : fb < B) (hb : Below w0.heap.size w0 W) (hbox : W.heap[fb]? = some (.cells #[v] 22 (0, 0))) (hrow : W.ownsRow (fb + 1) 32 2 v pre.length (pairCells pre)) (hst : StrRow W 32 v)
    (ho : w1.ownsRow (fb + 1) 32 2 (.slice (some ⟨g', 0, none⟩) (pre.length + 1) c') (pre.length + 1) (pairCells pre ++ [.string x.1, .string x.2])) (hg : (W.alloc (.cells tc 32)).grownBy w1 v.ownBlock) (hs1 : StrRow w1 32 (.slice (some ⟨g', 0, none⟩) (pre.length + 1) c')) :
    (w1.heap[fb]? = some (.cells #[v] 22 (0, 0)) ∧ ∀ k o, W.heap[k]? = some o → k < fb → (w1.setCell ⟨fb, 0, none⟩ (.slice (some ⟨g', 0, none⟩) (pre.length + 1) c')).heap[k]? = some o ∧ w1.heap[k]? = some o) ∧ Pays B W (w1.setCell ⟨fb, 0, none⟩ (.slice (some ⟨g', 0, none⟩) (pre.length + 1) c')) ∧ KpP W (w1.setCell ⟨fb, 0, none⟩ (.slice (some ⟨g', 0, none⟩) (pre.length + 1) c')) ∧ EaI w0 fb (pre ++ [x]) (w1.setCell ⟨fb, 0, none⟩ (.slice (some ⟨g', 0, none⟩) (pre.length + 1) c')) := by
  have hlt := (Array.getElem?_eq_some_iff.1 hbox).1
  have old : ∀ (k : Nat) o, W.heap[k]? = some o → some k ≠ v.ownBlock → w1.heap[k]? = some o := fun k o h hne => by
    have hk := (Array.getElem?_eq_some_iff.1 h).1
    rw [hg.block k (by simp; omega) hne, Below.heap_alloc _ _ _ hk]
    exact h
  have hnb : some fb ≠ v.ownBlock := fun e => by
    have := own_ge hrow (Nat.le_refl _) _ e.symm
    omega
  have hb1 := old _ _ hbox hnb
  have hgs := hg.size
  simp only [World.size_alloc] at hgs
  generalize hV : Value.slice (some ⟨g', 0, none⟩) (pre.length + 1) c' = V at *
  have hsz : (w1.setCell ⟨fb, 0, none⟩ V).heap.size = w1.heap.size := by simp [World.setCell]
  have same : ∀ (k : Nat) cs t fr, W.heap[k]? = some (Obj.cells cs t fr) → t ≠ 32 → t ≠ 22 → (w1.setCell ⟨fb, 0, none⟩ V).heap[k]? = some (Obj.cells cs t fr) := by
    intro k cs t fr h n1 n2
    have hne : some k ≠ v.ownBlock := fun e => by
      obtain ⟨cs', hcs, _⟩ := hst k e.symm
      rw [h] at hcs
      injection hcs with hcs
      injection hcs with _ ht _
      exact n1 ht
    have hkb : k ≠ fb := fun e => by
      subst e
      rw [hbox] at h
      injection h with h
      injection h with _ ht _
      exact n2 ht.symm
    rw [Below.heap_setCell _ _ _ _ hkb]
    exact old k _ h hne
  have low : ∀ k o, W.heap[k]? = some o → k < fb → w1.heap[k]? = some o := fun k o ho hk => old k o ho (fun e => by
    have := own_ge hrow (Nat.le_refl _) _ e.symm
    omega)
  refine ⟨⟨hb1, fun k o ho hk => ⟨by rw [Below.heap_setCell _ _ _ _ (fun e => by have e : k = fb := e; omega)]; exact low k o ho hk, low k o ho hk⟩⟩, ?_, ⟨by rw [hsz]; omega, same, ?_⟩, ⟨?_, V, ?_, ?_, ?_⟩⟩
  · intro k o hk h hc
    have hne : some k ≠ v.ownBlock := fun e => by
      obtain ⟨cs, hcs, _⟩ := hst k e.symm
      rw [h] at hcs
      injection hcs with hcs
      subst hcs
      cases hc
    rw [Below.heap_setCell _ _ _ _ (fun e => by have e : k = fb := e; omega)]
    exact old k o h hne
  · intro a k i hc
    obtain ⟨o, hob, hoc⟩ := cell_block hc
    have hne : some a.block ≠ v.ownBlock := fun e => by
      obtain ⟨cur, k1, k2⟩ := hst _ e.symm
      unfold World.cell? at hc
      rw [k1] at hc
      simp only at hc
      split at hc
      · cases hc
      · obtain ⟨s, hs⟩ := k2 _ (Array.mem_toList_iff.2 (Array.mem_of_getElem? hc))
        cases hs
    have hkb : a.block ≠ fb := fun e => by
      unfold World.cell? at hc
      rw [e, hbox] at hc
      simp only at hc
      split at hc
      · cases hc
      · have hmem := Array.mem_of_getElem? hc
        simp at hmem
        rcases hrow.2 with ⟨h, _⟩ | ⟨g, cp, cur, h, _⟩ <;> rw [h] at hmem <;> cases hmem
    exact (World.cell?_of_block ((Below.heap_setCell _ _ _ _ hkb).trans ((old _ _ hob hne).trans hob.symm))).trans hc
  · have h1 : Below w0.heap.size w0 w1 := (hb.alloc hb.size _).grown hg (by have := hb.size; simp; omega) (own_ge hrow (by omega))
    exact h1.setCell (p := ⟨fb, 0, none⟩) hw0 _
  · exact heap_setCell_same w1 fb 0 _ 22 V hb1
  · rw [List.length_append, pairCells_snoc]
    refine ⟨ho.1, ?_⟩
    rcases ho.2 with h | ⟨g, c, cur, k1, k2, k3, k4⟩
    · exact .inl h
    · exact .inr ⟨g, c, cur, k1, k2, by rw [Below.heap_setCell _ _ _ _ (fun e => by have e : g = fb := e; omega)]; exact k3, k4⟩
  · intro g hgg
    obtain ⟨cur, k1, k2⟩ := hs1 g hgg
    have := own_ge ho (Nat.le_refl _) g hgg
    exact ⟨cur, by rw [Below.heap_setCell _ _ _ _ (fun e => by have e : g = fb := e; omega)]; exact k1, k2⟩
theorem StrRow.alloc {w : World} {e : TypeId} {v : Value} (h : StrRow w e v) (o : Obj) : StrRow (w.alloc o) e v := fun g hg => by
  obtain ⟨cur, k1, k2⟩ := h g hg
  exact ⟨cur, (Below.heap_alloc _ _ _ (Array.getElem?_eq_some_iff.1 k1).1).trans k1, k2⟩
end Go.Proofs.YtgepjjebjhidiaaGreatDoor
namespace Go.Proofs.YtgepjjebjhidiaaGreatDoor
open Go.RowKit Go.Shelf
attribute [local go_sem] Oper.semAt_some

/-- what Each tells -/
def eachL (n : Nd) (s : ByteArray) (most : Int) : List (ByteArray × ByteArray) := match firstB s with
  | none => []
  | some f => if most ≤ 0 then [] else (tellL (pathN f) (n.flat [])).take (min most 100).toNat
def EachPost (n : Nd) (s : ByteArray) (most : Int) (w : World) (e : Ending) (w' : World) : Prop := ∃ v, e = .returned (.tuple #[v, .int .i64 0]) ∧ w'.ownsRow w.heap.size 32 2 v (eachL n s most).length (pairCells (eachL n s most)) ∧ Below w.heap.size w w'
theorem EachPost.none {n : Nd} {s : ByteArray} {most : Int} {w w' : World} (h : eachL n s most = []) (hb : Below w.heap.size w w') : EachPost n s most w (.returned (.tuple #[.slice .none 0 0, .int .i64 0])) w' :=
  ⟨_, rfl, by rw [h]; exact World.ownsRow_nil _ _ _ _, hb⟩
/-- a region that never panics -/
def calmQ (Q : Exit → Act → World → Prop) : Exit → Act → World → Prop
  | .normal, a, w => Q .normal a w
  | _, _, _ => False
theorem wpIn_calm {F : Fence} {n : Nat} {P : Program} {c : Code} {Q : Exit → Act → World → Prop} {a : Act} {w : World} (h : c.wpIn F n P (calmQ Q) a w) : c.wpIn F n P Q a w := by
  refine wpIn_mono h ?_
  intro e a' w' hq
  cases e with
  | normal => exact hq
  | _ => exact hq.elim
/-- two cells, written -/
theorem two_cells {w : World} {A B : Nat} {T1 T2 : TypeId} {x y : Value} (hA : w.heap[A]? = some (.cells #[x] T1 (0, 0))) (hB : w.heap[B]? = some (.cells #[y] T2 (0, 0))) (hne : A ≠ B) (u v : Value) :
    ((w.setCell ⟨A, 0, none⟩ u).setCell ⟨B, 0, none⟩ v).cell? ⟨A, 0, none⟩ = some u ∧ ((w.setCell ⟨A, 0, none⟩ u).setCell ⟨B, 0, none⟩ v).cell? ⟨B, 0, none⟩ = some v := by
  have h1 := heap_setCell_same w A 0 _ T1 u hA
  have h2 : (w.setCell ⟨A, 0, none⟩ u).heap[B]? = some (.cells #[y] T2 (0, 0)) := (Below.heap_setCell _ _ _ _ (fun e => by have e : B = A := e; exact hne e.symm)).trans hB
  have h3 := heap_setCell_same _ B 0 _ T2 v h2
  have h4 : ((w.setCell ⟨A, 0, none⟩ u).setCell ⟨B, 0, none⟩ v).heap[A]? = some (.cells #[u] T1 (0, 0)) := (Below.heap_setCell _ _ _ _ (fun e => by have e : A = B := e; exact hne e)).trans h1
  exact ⟨cell_of_row _ _ 0 _ _ (0, 0) h4, cell_of_row _ _ 0 _ _ (0, 0) h3⟩
theorem below_pair {B : Nat} {a w : World} (h : Below B a w) {p q : Nat} (hp : B ≤ p) (hq : B ≤ q) (u v : Value) : Below B a ((w.setCell ⟨p, 0, none⟩ u).setCell ⟨q, 0, none⟩ v) := (h.setCell (p := ⟨p, 0, none⟩) hp u).setCell (p := ⟨q, 0, none⟩) hq v
/-- Each's own boxes -/
def EachBx (w : World) (most : Int) (A : World) : Prop := A.heap[w.heap.size]? = some (.cells #[.int .i64 most] 3 (0, 0)) ∧ A.heap[w.heap.size + 1]? = some (.cells #[.slice none 0 0] 22 (0, 0)) ∧ A.heap[w.heap.size + 1 + 1]? = some (.cells #[.int .i64 0] 26 (0, 0))
theorem EachBx.turn {w : World} {most : Int} {B : Nat} {A A' : World} (h : EachBx w most A) (ht : Turned B A A') : EachBx w most A' := ⟨ht.same _ _ h.1 (.inr rfl), ht.same _ _ h.2.1 (.inr rfl), ht.same _ _ h.2.2 (.inr rfl)⟩
theorem each_fin {w A : World} {fb D : Nat} {most : Int} {pre : List (ByteArray × ByteArray)} {v : Value} (hb : Below w.heap.size w A) (bx : EachBx w most A) (hrow : A.ownsRow (fb + 1) 32 2 v pre.length (pairCells pre)) (hfl : w.heap.size + 1 + 1 < fb) (hD : fb < D) (hd : A.heap[D]? = some (.deferred (some []))) :
    ((A.setCell ⟨w.heap.size + 1, 0, none⟩ v).setCell ⟨w.heap.size + 1 + 1, 0, none⟩ (.int .i64 0)).heap[D]? = some (.deferred (some [])) ∧ (((A.setCell ⟨w.heap.size + 1, 0, none⟩ v).setCell ⟨w.heap.size + 1 + 1, 0, none⟩ (.int .i64 0)).putObj D (.deferred none)).cell? ⟨w.heap.size + 1, 0, none⟩ = some v ∧
    (((A.setCell ⟨w.heap.size + 1, 0, none⟩ v).setCell ⟨w.heap.size + 1 + 1, 0, none⟩ (.int .i64 0)).putObj D (.deferred none)).cell? ⟨w.heap.size + 1 + 1, 0, none⟩ = some (.int .i64 0) ∧ (((A.setCell ⟨w.heap.size + 1, 0, none⟩ v).setCell ⟨w.heap.size + 1 + 1, 0, none⟩ (.int .i64 0)).putObj D (.deferred none)).ownsRow w.heap.size 32 2 v pre.length (pairCells pre) ∧
    Below w.heap.size w (((A.setCell ⟨w.heap.size + 1, 0, none⟩ v).setCell ⟨w.heap.size + 1 + 1, 0, none⟩ (.int .i64 0)).putObj D (.deferred none)) := by
  have oth : ∀ k, k ≠ w.heap.size + 1 → k ≠ w.heap.size + 1 + 1 → ((A.setCell ⟨w.heap.size + 1, 0, none⟩ v).setCell ⟨w.heap.size + 1 + 1, 0, none⟩ (.int .i64 0)).heap[k]? = A.heap[k]? := fun k h1 h2 => (Below.heap_setCell _ _ _ _ (fun e => h2 e)).trans (Below.heap_setCell _ _ _ _ (fun e => h1 e))
  have hdd := (oth D (by omega) (by omega)).trans hd
  obtain ⟨k1, k2⟩ := two_cells bx.2.1 bx.2.2 (by omega) v (.int .i64 0)
  refine ⟨hdd, ?_, ?_, ⟨hrow.1, ?_⟩, ?_⟩
  · exact (World.cell?_of_block (World.putObj_heap_other (by show w.heap.size + 1 ≠ D; omega))).trans k1
  · exact (World.cell?_of_block (World.putObj_heap_other (by show w.heap.size + 1 + 1 ≠ D; omega))).trans k2
  · rcases hrow.2 with h | ⟨g, c, cur, j1, j2, j3, j4⟩
    · exact .inl h
    · refine .inr ⟨g, c, cur, j1, by omega, ?_, j4⟩
      rw [World.putObj_heap_other (fun e => by rw [e, hd] at j3; cases j3)]
      exact (oth g (by omega) (by omega)).trans j3
  · have h1 := below_pair hb (p := w.heap.size + 1) (q := w.heap.size + 1 + 1) (by omega) (by omega) v (.int .i64 0)
    exact ⟨h1.os, h1.tape, h1.output, by simpa using h1.size, fun k hk => (World.putObj_heap_other (by omega)).trans (h1.block k hk)⟩
theorem each_results {tmps : Array Value} {w : World} {A B : Nat} {v1 v2 : Value} (h6 : tmps[6]? = some (.pointer (some ⟨A, 0, none⟩))) (h7 : tmps[7]? = some (.pointer (some ⟨B, 0, none⟩))) (h1 : w.cell? ⟨A, 0, none⟩ = some v1) (h2 : w.cell? ⟨B, 0, none⟩ = some v2) :
    (results Tryz.f38 tmps).run Tryz.prog w = .ok (.tuple #[v1, v2]) w := by
  simp [results, Tryz.results38, go_sem, h6, h7, h1, h2]
set_option maxRecDepth 100000 in
set_option maxHeartbeats 8000000 in
theorem tEach_any (Hk : Nd → ByteArray → Prop) (ok : Nat → Prop) (T M : Nat) (n : Nd) (s : ByteArray) (most : Int) (w : World) (hA : TreeAt Hk ok w T (.map (some M)) n) (hO : TOk n) (hkeys : KeysOk (n.flat [])) (hs : s.size ≤ 9223372036854775807) (hm1 : -9223372036854775808 ≤ most) (hm2 : most ≤ 9223372036854775807) :
    Calls Tryz.prog 38 #[ptr T, .string s, .int .i64 most] w fun e w' => EachPost n s most w e w' := by
  refine (callsIn_wide (n := 9)).1 ?_
  have hmo : Tryz.prog.follows .mixedOrders = true := by kernel_rfl
  have hTl := hA.lt
  obtain ⟨u, hT, hn⟩ := hA.held
  have HC : Hid (∀ W, Below w.heap.size w W → W.cell? ⟨T, 0, none⟩ = some (.map (some M)) ∧ W.cell? ⟨T, 1, none⟩ = some u ∧ W.cell? ⟨T, 2, none⟩ = some (.string e0)) := fun W hW => by
    have h := (hW.block T hTl).trans hT
    exact ⟨cell_of_row _ _ 0 _ _ (0, 0) h, cell_of_row _ _ 1 _ _ (0, 0) h, cell_of_row _ _ 2 _ _ (0, 0) h⟩
  obtain ⟨o1, ho1⟩ : ∃ o1 : Obj, o1 = .cells #[.int .i64 most] 3 := ⟨_, rfl⟩
  obtain ⟨o2, ho2⟩ : ∃ o2 : Obj, o2 = .cells #[.slice none 0 0] 22 := ⟨_, rfl⟩
  obtain ⟨o3, ho3⟩ : ∃ o3 : Obj, o3 = .cells #[.int .i64 0] 26 := ⟨_, rfl⟩
  have HF := hide (three_boxes w o1 o2 o3)
  rw [ho1, ho2, ho3] at HF
  clear ho1 ho2 ho3
  unfold ptr
  refine callsIn_of_wp_marks Tryz.func38 rfl trivial ?_ rfl
  simp only [Tryz.ntmps38, List.size_toArray, List.length_cons, List.length_nil, Nat.reduceAdd, Nat.reduceSub, Array.replicate_succ, Array.replicate_zero, List.push_toArray, List.append_toArray, List.nil_append, List.cons_append]
  gi_wp2_with fail
  refine ⟨trivial, (callsIn_wide.2 (firstKey_any s _ hs)).mono ?_⟩
  rintro e w1 ⟨rfl, hb1⟩
  obtain ⟨k1, k2, k3, kb⟩ := HF.out
  have hz : ∀ o1 o2 o3 : Obj, w.heap.size + 1 + 1 < (((w.alloc o1).alloc o2).alloc o3).heap.size := fun o1 o2 o3 => by simp
  have hbw := kb.trans (hb1.mono kb.size)
  have HB1 := hide hbw
  have q1 := (hb1.block _ (Nat.lt_trans (by omega) (hz _ _ _))).trans k1
  have q2 := (hb1.block _ (Nat.lt_trans (by omega) (hz _ _ _))).trans k2
  have q3 := (hb1.block _ (hz _ _ _)).trans k3
  have HQ := hide (And.intro q1 (And.intro q2 q3))
  have r1 : w1.cell? ⟨w.heap.size, 0, none⟩ = some (.int .i64 most) := cell_of_row w1 _ 0 _ _ (0, 0) q1
  have r2 : w1.cell? ⟨w.heap.size + 1, 0, none⟩ = some (.slice none 0 0) := cell_of_row w1 _ 0 _ _ (0, 0) q2
  have r3 : w1.cell? ⟨w.heap.size + 1 + 1, 0, none⟩ = some (.int .i64 0) := cell_of_row w1 _ 0 _ _ (0, 0) q3
  have z2 : w1.frozen? ⟨w.heap.size + 1, 0, none⟩ = false := frozen_of_row w1 _ 0 _ _ q2
  have z3 : w1.frozen? ⟨w.heap.size + 1 + 1, 0, none⟩ = false := frozen_of_row w1 _ 0 _ _ q3
  clear hb1 kb k1 k2 k3 q1 q2 q3 hz hbw
  unfold firstE
  cases hf : firstB s with
  | none =>
    have HE : Hid (eachL n s most = []) := by show _ = _; unfold eachL; rw [hf]
    dsimp only
    gi_wp2
    obtain ⟨q1, q2, q3⟩ := HQ.out
    obtain ⟨k1, k2⟩ := two_cells q2 q3 (by omega) (.slice .none 0 0) (.int .i64 0)
    exact ⟨_, each_results rfl rfl k1 k2, EachPost.none HE.out (below_pair HB1.out (by omega) (by omega) _ _)⟩
  | some f =>
    dsimp only
    by_cases hmost : most ≤ 0
    · have HE : Hid (eachL n s most = []) := by show _ = _; unfold eachL; rw [hf]; exact if_pos hmost
      gi_wp2
      obtain ⟨q1, q2, q3⟩ := HQ.out
      obtain ⟨k1, k2⟩ := two_cells q2 q3 (by omega) (.slice .none 0 0) (.int .i64 0)
      exact ⟨_, each_results rfl rfl k1 k2, EachPost.none HE.out (below_pair HB1.out (by omega) (by omega) _ _)⟩
    · gi_wp2_with fail
      obtain ⟨fb, hfb⟩ : ∃ fb, fb = w1.heap.size := ⟨_, rfl⟩
      obtain ⟨W2, hW2⟩ : ∃ W2, W2 = w1.alloc (.cells #[.slice none 0 0] 22) := ⟨_, rfl⟩
      have hb2 : Below w1.heap.size w1 W2 := by rw [hW2]; exact below_alloc _ _
      have f2 : W2.heap[fb]? = some (.cells #[.slice none 0 0] 22 (0, 0)) := by rw [hW2, hfb]; exact heap_alloc_new w1 _
      have hfl : w.heap.size + 1 + 1 < fb := by
        rw [hfb]
        exact (Array.getElem?_eq_some_iff.1 HQ.out.2.2).1
      have hw2 : Below w.heap.size w W2 := HB1.out.trans (hb2.mono HB1.out.size)
      have HQ2 : Hid (W2.heap[w.heap.size]? = some (.cells #[.int .i64 most] 3 (0, 0)) ∧ W2.heap[w.heap.size + 1]? = some (.cells #[.slice none 0 0] 22 (0, 0)) ∧ W2.heap[w.heap.size + 1 + 1]? = some (.cells #[.int .i64 0] 26 (0, 0))) := by
        obtain ⟨q1, q2, q3⟩ := HQ.out
        exact ⟨(hb2.block _ (Array.getElem?_eq_some_iff.1 q1).1).trans q1, (hb2.block _ (Array.getElem?_eq_some_iff.1 q2).1).trans q2, (hb2.block _ (Array.getElem?_eq_some_iff.1 q3).1).trans q3⟩
      have HW2 := hide hw2
      have HF2 := hide f2
      have HE : Hid (eachL n s most = (tellL (pathN f) (n.flat [])).take (min most 100).toNat) := by show _ = _; unfold eachL; rw [hf]; exact if_neg (by omega)
      have hfs : f.size ≤ 64 := by
        unfold firstB at hf
        split at hf
        · injection hf with hf; rw [← hf]; assumption
        · split at hf
          · cases hf
          · injection hf with hf
            have hcl := cutE_le s 64
            rw [← hf, ByteArray.size_append, strOfNums_size, ByteArray.size_extract]
            simp only [List.length_cons, List.length_nil]
            omega
      have HOf : Hid (∀ W, Below W2.heap.size W2 W → Calls Tryz.prog 33 #[.string f] W fun e w' => ∃ g, e = .returned (.slice (some ⟨g, 0, none⟩) (pathN f).length (2 * f.size)) ∧ Nums w' (some ⟨g, 0, none⟩) (pathN f) ∧ Below W2.heap.size W2 w') := fun W hW => by
        refine (of_nums f W (by omega)).mono ?_
        rintro e w' ⟨g, rfl, h1, _, h2⟩
        exact ⟨g, rfl, h1, hW.trans (h2.mono hW.size)⟩
      have HPr : Hid (∀ W g, Below W2.heap.size W2 W → Nums W (some ⟨g, 0, none⟩) (pathN f) → Calls Tryz.prog 55 #[.map (some M), .agg #[u, .string e0, .nilIface, .int .i64 0], .slice none 0 0, .slice (some ⟨g, 0, none⟩) (pathN f).length (2 * f.size)] W fun e w' => ∃ bA bP bF bS, e = .returned (.func (.func 66) #[] #[.pointer (some ⟨bA, 0, none⟩), .pointer (some ⟨bP, 0, none⟩), .pointer (some ⟨bF, 0, none⟩), .pointer (some ⟨bS, 0, none⟩)]) ∧ TellsPairs (tellL (pathN f) (n.flat [])) 66 #[.pointer (some ⟨bA, 0, none⟩), .pointer (some ⟨bP, 0, none⟩), .pointer (some ⟨bF, 0, none⟩), .pointer (some ⟨bS, 0, none⟩)] w' ∧ Below W2.heap.size W2 w') := fun W g hW hN => by
        have hNw := (hn.keep HW2.out).keep hW
        refine (pairs_made Hk ok n M u e0 .nilIface 0 none 0 g 0 (2 * f.size) [] (pathN f) W hNw (fun _ => rfl) (Nums.nil (fun a e => by cases e)) (fun _ => rfl) (Nat.le_refl _) hN (by rw [pathN_length]; exact Nat.le_refl _)).mono ?_
        rintro e w' ⟨bA, bP, bF, bS, rfl, h2, h3⟩
        exact ⟨bA, bP, bF, bS, rfl, pairs_all Hk ok n [] (pathN f) bA bP bF bS w' hO.wf hkeys (by rw [pathN_length]; omega) (by simp) h2, hW.trans (h3.mono hW.size)⟩
      have HC2 : Hid (∀ W, Below W2.heap.size W2 W → W.cell? ⟨T, 0, none⟩ = some (.map (some M)) ∧ W.cell? ⟨T, 1, none⟩ = some u ∧ W.cell? ⟨T, 2, none⟩ = some (.string e0)) := fun W hW => HC.out W (HW2.out.trans (hW.mono HW2.out.size))
      have hnd := hn.isNd
      obtain ⟨L, hL⟩ : ∃ L, L = tellL (pathN f) (n.flat []) := ⟨_, rfl⟩
      obtain ⟨K, hK⟩ : ∃ K : Nat, K = (min most 100).toNat := ⟨_, rfl⟩
      have hK1 : (K : Int) = min most 100 := by omega
      have hK0 : 0 < K := by omega
      have hK2 : K ≤ 100 := by omega
      rw [← hL] at HPr HE
      rw [← hK] at HE
      have HK := hide (And.intro hK1 (And.intro hK0 hK2))
      simp only [← hW2, ← hfb]
      obtain ⟨cT0, cT1, cT2⟩ := HC2.out W2 (Below.refl _ _)
      clear hK hL hf hn hA hO hkeys hT hb2 hw2 hW2 hfb HQ HC HB1 f2 r1 r2 r3 z2 z3 hs
      clear HF
      generalize (pathN f).length = pl at *
      refine wpIn_mono (Q := calmQ (fun _ a' w' => ∃ A31 A32 g bA bP bF bS, a' = { tmps := #[.pointer (some ⟨T, 0, none⟩), .string s, .int .i64 most, undef, undef, .pointer (some ⟨w.heap.size, 0, none⟩), .pointer (some ⟨w.heap.size + 1, 0, none⟩), .pointer (some ⟨w.heap.size + 1 + 1, 0, none⟩), .string f, .bool true, .pointer (some ⟨fb, 0, none⟩), undef, undef, .tuple #[.string f, .bool true], .string s, .tuple #[.string f, .bool true], .string f, .bool true, .bool true, .bool false, .bool false, .int .i64 most, .bool false, .bool false, .pointer (some ⟨T, 0, none⟩), .pointer (some ⟨T, 0, none⟩), .pointer (some ⟨T, 0, none⟩), .map (some M), .pointer (some ⟨T, 0, none⟩), .pointer (some ⟨T, 0, none⟩), .pointer (some ⟨T, 1, none⟩), A31, A32, .string f, .slice (some ⟨g, 0, none⟩) pl (2 * f.size), .func (.func 66) #[] #[.pointer (some ⟨bA, 0, none⟩), .pointer (some ⟨bP, 0, none⟩), .pointer (some ⟨bF, 0, none⟩), .pointer (some ⟨bS, 0, none⟩)], undef, undef, undef, undef, undef, undef, undef, undef, undef, undef, undef, undef, undef, undef, undef], defers := [] } ∧ TellsPairs L 66 #[.pointer (some ⟨bA, 0, none⟩), .pointer (some ⟨bP, 0, none⟩), .pointer (some ⟨bF, 0, none⟩), .pointer (some ⟨bS, 0, none⟩)] w' ∧ Below W2.heap.size W2 w')) ?reg ?rest
      case reg =>
        rcases hnd with rfl | ⟨ut, ub, rfl⟩
        · gi_region_with (first
          | (refine ⟨trivial, (callsIn_wide.2 (HOf.out _ ((Below.refl _ _).drew))).mono ?_⟩; rintro e w3 ⟨g, rfl, hnu, hb3⟩; (have HN3 := hide hnu); (have HB3 := hide hb3); (obtain ⟨cT0, cT1, cT2⟩ := HC2.out w3 hb3); clear hnu hb3)
          | (refine ⟨trivial, (callsIn_wide.2 (HPr.out _ g HB3.out HN3.out)).mono ?_⟩; rintro e w4 ⟨bA, bP, bF, bS, rfl, hp4, hb4⟩; (have HP4 := hide hp4); (have HB4 := hide hb4); clear hp4 hb4))
          all_goals exact ⟨_, _, g, bA, bP, bF, bS, rfl, HP4.out, HB4.out⟩
        · unfold ptr at *
          gi_region_with (first
          | (refine ⟨trivial, (callsIn_wide.2 (HOf.out _ ((Below.refl _ _).drew))).mono ?_⟩; rintro e w3 ⟨g, rfl, hnu, hb3⟩; (have HN3 := hide hnu); (have HB3 := hide hb3); (obtain ⟨cT0, cT1, cT2⟩ := HC2.out w3 hb3); clear hnu hb3)
          | (refine ⟨trivial, (callsIn_wide.2 (HPr.out _ g HB3.out HN3.out)).mono ?_⟩; rintro e w4 ⟨bA, bP, bF, bS, rfl, hp4, hb4⟩; (have HP4 := hide hp4); (have HB4 := hide hb4); clear hp4 hb4))
          all_goals exact ⟨_, _, g, bA, bP, bF, bS, rfl, HP4.out, HB4.out⟩
      case rest =>
        intro e a' w4 hq
        cases e with
        | ret => exact hq.elim
        | exit _ => exact hq.elim
        | goto _ => exact hq.elim
        | panic _ => exact hq.elim
        | outgrown => exact hq.elim
        | normal =>
          obtain ⟨A31, A32, g, bA, bP, bF, bS, rfl, hp4, hb4⟩ := hq
          have HP4 := hide hp4
          have HQ4 : Hid (EachBx w most w4) := by
            obtain ⟨q1, q2, q3⟩ := HQ2.out
            exact ⟨(hb4.block _ (Array.getElem?_eq_some_iff.1 q1).1).trans q1, (hb4.block _ (Array.getElem?_eq_some_iff.1 q2).1).trans q2, (hb4.block _ (Array.getElem?_eq_some_iff.1 q3).1).trans q3⟩
          have HF4 := hide ((hb4.block _ (Array.getElem?_eq_some_iff.1 HF2.out).1).trans HF2.out)
          have HW4 := hide (HW2.out.trans (hb4.mono HW2.out.size))
          have hfb4 : fb < w4.heap.size := (Array.getElem?_eq_some_iff.1 HF4.out).1
          have hww : w.heap.size ≤ w4.heap.size := HW4.out.size
          clear hp4 hb4 HOf HPr HC2 HQ2 HF2 HW2 cT0 cT1 cT2 hnd hfs
          gi_wp2_with fail
          refine rangeS (α := ByteArray × ByteArray) (w := w4) rfl (by omega) (gf := 66) (lb := #[.pointer (some ⟨bA, 0, none⟩), .pointer (some ⟨bP, 0, none⟩), .pointer (some ⟨bF, 0, none⟩), .pointer (some ⟨bS, 0, none⟩)]) rfl trivial (fun _ _ => by kernel_rfl) (encs := encPair) (fun _ => rfl) (Fx := fun _ _ => True) (Kp := KpP) (Done := fun xs => xs = L) (fun pre z => pre ++ [z] <+: L)
            (fun pre A => EaI w fb pre A ∧ pre.length < K ∧ EachBx w most A) (fun c pre A => c = .exit 0 ∧ pre.length = K ∧ pre <+: L ∧ EaI w fb pre A ∧ EachBx w most A)
            (fun pre A A' h ht => ⟨h.1.turn hww ht, h.2.1, h.2.2.turn ht⟩) (fun c pre A A' h ht => ⟨h.1, h.2.1, h.2.2.1, h.2.2.2.1.turn hww ht, h.2.2.2.2.turn ht⟩) (fun _ _ _ _ _ => trivial) (fun A A2 A3 A4 h1 h2 h3 => KpP.turn A A2 A3 A4 h1 h2 h3)
            (fun l3 J3 X3 W3 hl3 hT3 hJ3 hX3 hY3 hJ30 => HP4.out 8 l3 J3 X3 W3 hl3 (KpP.of_turned hT3) hJ3 hX3 (fun m' pre x W1 h1 h2 h3 => any_round (hY3 pre x W1 h1 h2 h3)) hJ30)
            ⟨⟨HW4.out, _, HF4.out, World.ownsRow_nil _ _ _ _, fun g hg => by simp [Value.ownBlock] at hg⟩, HK.out.2.1, HQ4.out⟩
            (fun z a' A => ∃ B2 : Nat, A.heap[B2]? = some (.cells #[.string z.1, .string z.2] 32 (0, 0)) ∧ a' = { tmps := #[.pointer (some ⟨T, 0, none⟩), .string s, .int .i64 most, undef, undef, .pointer (some ⟨w.heap.size, 0, none⟩), .pointer (some ⟨w.heap.size + 1, 0, none⟩), .pointer (some ⟨w.heap.size + 1 + 1, 0, none⟩), .string f, .bool true, .pointer (some ⟨fb, 0, none⟩), .pointer (some ⟨B2, 0, none⟩), .int .i64 0, .tuple #[.string f, .bool true], .string s, .tuple #[.string f, .bool true], .string f, .bool true, .bool true, .bool false, .bool false, .int .i64 most, .bool false, .bool false, .pointer (some ⟨T, 0, none⟩), .pointer (some ⟨T, 0, none⟩), .pointer (some ⟨T, 0, none⟩), .map (some M), .pointer (some ⟨T, 0, none⟩), .pointer (some ⟨T, 0, none⟩), .pointer (some ⟨T, 1, none⟩), A31, A32, .string f, .slice (some ⟨g, 0, none⟩) pl (2 * f.size), .func (.func 66) #[] #[.pointer (some ⟨bA, 0, none⟩), .pointer (some ⟨bP, 0, none⟩), .pointer (some ⟨bF, 0, none⟩), .pointer (some ⟨bS, 0, none⟩)], .agg #[.string z.1, .string z.2], .int .i64 0, undef, undef, undef, undef, undef, undef, undef, undef, undef, undef, undef, undef, undef], defers := [] })
            ?assign (fun z a' A A' ⟨B2, k1, k2⟩ ht => ⟨B2, ht.same _ _ k1 (.inr rfl), k2⟩) ?body ?done ?stop
          case assign =>
            intro l4 pre z A Kc hi _ hKc
            simp only [encPair]
            gi_wp2
            exact hKc _ _ ⟨A.heap.size, heap_alloc_new A _, rfl⟩ ⟨hi.1.turn hww (Turned.of_below (below_alloc A _)), hi.2.1, hi.2.2.turn (B := w4.heap.size) (Turned.of_below (below_alloc A _))⟩ trivial (pays_alloc _ A _) (Turned.of_below (below_alloc A _))
          case body =>
            rintro l4 pre z a' A ⟨B2, hb2, rfl⟩ ⟨i1, i2, i3⟩ _ hok _ _
            obtain ⟨v, hbox, hrow, hst⟩ := i1.own
            obtain ⟨t0, hti, hz0, hz1, hz2⟩ := info_parts infoPair
            obtain ⟨g9, c9, w9, hr9, ho9, hg9, hs9⟩ := run_append_str (P := Tryz.prog) (A.alloc (.cells #[.string z.1, .string z.2] 32)) (fb + 1) 22 22 32 t0 _ 32 Tryz.underlying22 hti hz0 hz1 hz2 rfl v pre.length (pairCells pre) (hrow.alloc _) (hst.alloc _) (pairCells_str pre) ⟨A.heap.size, 0, none⟩ 1 z.1 z.2 (World.news_of_block (heap_alloc_new A _)) (by have := HK.out; unfold maxLen; omega) (by have := HK.out; omega) (by have := (Array.getElem?_eq_some_iff.1 hbox).1; simp; omega)
            have hfin := ea_fin (x := z) (B := w4.heap.size) (by omega) hfb4 i1.bel hbox hrow hst ho9 hg9 hs9
            have HFin := hide hfin
            have HBx9 : Hid (EachBx w most (w9.setCell ⟨fb, 0, none⟩ (.slice (some ⟨g9, 0, none⟩) (pre.length + 1) c9))) := ⟨(hfin.1.2 _ _ i3.1 (by omega)).1, (hfin.1.2 _ _ i3.2.1 (by omega)).1, (hfin.1.2 _ _ i3.2.2 (by omega)).1⟩
            have HR9 := hide hr9
            have d0 : A.cell? ⟨fb, 0, none⟩ = some v := cell_of_row A _ 0 _ _ (0, 0) hbox
            have d1 : A.cell? ⟨B2, 0, none⟩ = some (.string z.1) := cell_of_row A _ 0 _ _ (0, 0) hb2
            have d2 : A.cell? ⟨B2, 1, none⟩ = some (.string z.2) := cell_of_row A _ 1 _ _ (0, 0) hb2
            have d3 : w9.cell? ⟨fb, 0, none⟩ = some v := cell_of_row w9 _ 0 _ _ (0, 0) hfin.1.1
            have d4 : w9.frozen? ⟨fb, 0, none⟩ = false := frozen_of_row w9 _ 0 _ _ hfin.1.1
            have d5 : (w9.setCell ⟨fb, 0, none⟩ (.slice (some ⟨g9, 0, none⟩) (pre.length + 1) c9)).cell? ⟨fb, 0, none⟩ = some (.slice (some ⟨g9, 0, none⟩) (pre.length + 1) c9) := cell_of_row _ _ 0 _ _ (0, 0) (heap_setCell_same w9 fb 0 _ _ _ hfin.1.1)
            have d6 : (w9.setCell ⟨fb, 0, none⟩ (.slice (some ⟨g9, 0, none⟩) (pre.length + 1) c9)).cell? ⟨w.heap.size, 0, none⟩ = some (.int .i64 most) := cell_of_row _ _ 0 _ _ (0, 0) HBx9.out.1
            have HOk := hide hok
            have HI2 := hide i2
            have hk1 := HK.out.1
            clear i1 i3 hbox hrow hst ho9 hg9 hs9 hfin hr9 hb2 hok hti hz0 hz1 hz2
            by_cases hlast : pre.length + 1 = K
            · have hq : ((pre.length : Int) + 1) = min most 100 := by omega
              have HL := hide hlast
              clear hlast hk1 i2
              gi_wp2_with (gi_at_builtin; refine wpListIn_append_run rfl _ _ 22 rfl _ _ _ _ rfl rfl HR9.out ?_)
              obtain ⟨_, f1, f2, f3⟩ := HFin.out
              exact ⟨f1, f2, rfl, by rw [List.length_append]; exact HL.out, HOk.out, f3, HBx9.out⟩
            · have hq : ¬ ((pre.length : Int) + 1) = min most 100 := by omega
              have HL := hide hlast
              clear hlast hk1 i2
              gi_wp2_with (gi_at_builtin; refine wpListIn_append_run rfl _ _ 22 rfl _ _ _ _ rfl rfl HR9.out ?_)
              obtain ⟨_, f1, f2, f3⟩ := HFin.out
              exact ⟨f1, f2, f3, by rw [List.length_append]; have := HL.out; have := HI2.out; simp only [List.length_cons, List.length_nil]; omega, HBx9.out⟩
          case done =>
            rintro D xs A hD rfl ⟨i1, i2, i3⟩ hKd
            obtain ⟨v, hbox, hrow, _⟩ := i1.own
            obtain ⟨vao, vcap, rfl⟩ := own_len hrow
            obtain ⟨e1, e2, e3, e4, e5⟩ := each_fin i1.bel i3 hrow hfl (show fb < D by omega) hKd
            have HX := hide (And.intro e1 (And.intro e2 (And.intro e3 (And.intro e4 e5))))
            have HI2 := hide i2
            have d0 : A.cell? ⟨fb, 0, none⟩ = some (.slice vao _ vcap) := cell_of_row A _ 0 _ _ (0, 0) hbox
            have d1 : A.cell? ⟨w.heap.size + 1, 0, none⟩ = some (.slice none 0 0) := cell_of_row A _ 0 _ _ (0, 0) i3.2.1
            have d2 : A.cell? ⟨w.heap.size + 1 + 1, 0, none⟩ = some (.int .i64 0) := cell_of_row A _ 0 _ _ (0, 0) i3.2.2
            have d3 : A.frozen? ⟨w.heap.size + 1, 0, none⟩ = false := frozen_of_row A _ 0 _ _ i3.2.1
            have d4 : A.frozen? ⟨w.heap.size + 1 + 1, 0, none⟩ = false := frozen_of_row A _ 0 _ _ i3.2.2
            clear e1 e2 e3 e4 e5 i1 i2 i3 hbox hrow hKd
            gi_wp2
            obtain ⟨e1, e2, e3, e4, e5⟩ := HX.out
            refine ⟨by simp, .inl ⟨_, _, rfl, run_takeDeferred e1, ?_⟩⟩
            refine ⟨_, each_results rfl rfl e2 e3, _, rfl, ?_, e5⟩
            rw [HE.out, List.take_of_length_le (by have := HI2.out; omega)]
            exact e4
          case stop =>
            rintro D c xs A hD ⟨rfl, i2, i4, i1, i3⟩ hKd
            obtain ⟨v, hbox, hrow, _⟩ := i1.own
            obtain ⟨vao, vcap, rfl⟩ := own_len hrow
            obtain ⟨e1, e2, e3, e4, e5⟩ := each_fin i1.bel i3 hrow hfl (show fb < D by omega) hKd
            have HX := hide (And.intro e1 (And.intro e2 (And.intro e3 (And.intro e4 e5))))
            have HI2 := hide (And.intro i2 i4)
            have d0 : A.cell? ⟨fb, 0, none⟩ = some (.slice vao _ vcap) := cell_of_row A _ 0 _ _ (0, 0) hbox
            have d1 : A.cell? ⟨w.heap.size + 1, 0, none⟩ = some (.slice none 0 0) := cell_of_row A _ 0 _ _ (0, 0) i3.2.1
            have d2 : A.cell? ⟨w.heap.size + 1 + 1, 0, none⟩ = some (.int .i64 0) := cell_of_row A _ 0 _ _ (0, 0) i3.2.2
            have d3 : A.frozen? ⟨w.heap.size + 1, 0, none⟩ = false := frozen_of_row A _ 0 _ _ i3.2.1
            have d4 : A.frozen? ⟨w.heap.size + 1 + 1, 0, none⟩ = false := frozen_of_row A _ 0 _ _ i3.2.2
            clear e1 e2 e3 e4 e5 i1 i2 i3 i4 hbox hrow hKd
            gi_wp2
            obtain ⟨e1, e2, e3, e4, e5⟩ := HX.out
            refine ⟨by simp, .inl ⟨_, _, rfl, run_takeDeferred e1, ?_⟩⟩
            refine ⟨_, each_results rfl rfl e2 e3, _, rfl, ?_, e5⟩
            obtain ⟨j1, r, rfl⟩ := HI2.out
            rw [HE.out, ← j1, List.take_left]
            exact e4
end Go.Proofs.YtgepjjebjhidiaaGreatDoor
namespace Go.Proofs.YtgepjjebjhidiaaGreatDoor
open Go.RowKit
attribute [local go_sem ↓] Go.wp_at_zero Go.wp_at_succ

set_option maxHeartbeats 1000000 in
set_option maxRecDepth 20000 in
theorem cEach_any (Hk : Nd → ByteArray → Prop) (ok : Nat → Prop) (T M : Nat) (n : Nd) (s : ByteArray) (most : Int) (w : World) (hA : TreeAt Hk ok w T (.map (some M)) n) (hO : TOk n) (hkeys : KeysOk (n.flat [])) (hs : s.size ≤ 9223372036854775807) (hm1 : -9223372036854775808 ≤ most) (hm2 : most ≤ 9223372036854775807) :
    Calls Tryz.prog 24 #[ptr T, .string s, .int .i64 most] w fun e w' => EachPost n s most w e w' := by
  have HP := hide (tEach_any Hk ok T M n s most w hA hO hkeys hs hm1 hm2)
  clear hA hO hkeys
  unfold ptr at *
  go_enter Tryz.func24, Tryz.ntmps24
  go_wp2_with fail
  refine HP.out.mono ?_
  rintro e w5 ⟨v, rfl, h1, h2⟩
  have HX := hide (And.intro h1 h2)
  clear h1 h2
  go_wp2
  go_ret2
  exact ⟨v, rfl, HX.out.1, HX.out.2⟩
def upToN (s : ByteArray) (n : Nat) : ByteArray := if n < s.size then s.extract 0 n else s
set_option maxRecDepth 20000 in
theorem upTo_any (s : ByteArray) (n : Nat) (w : World) (_hs : s.size ≤ 9223372036854775807) (hn : n ≤ 1000000) :
    Calls Tryz.prog 11 #[.string s, .int .i64 (n : Int)] w fun e w' => e = .returned (.string (upToN s n)) ∧ w' = w := by
  by_cases h1 : n < s.size
  · have HE : Hid (upToN s n = s.extract 0 n) := by show _ = _; simp [upToN, h1]
    have c1 : (n : Int) < (s.size : Int) := by omega
    have c2 : (0 : Int) ≤ (n : Int) := by omega
    go_enter Tryz.func11, Tryz.ntmps11
    go_wp2
    go_ret
    exact ⟨by rw [HE.out]; rfl, rfl⟩
  · have HE : Hid (upToN s n = s) := by show _ = _; simp [upToN, h1]
    have c1 : (s.size : Int) ≤ (n : Int) := by omega
    go_enter Tryz.func11, Tryz.ntmps11
    go_wp2
    go_ret
    exact ⟨by rw [HE.out]; rfl, rfl⟩
theorem upToN_size (s : ByteArray) (n : Nat) : (upToN s n).size ≤ n := by
  unfold upToN; split
  · simp [ByteArray.size_extract]; omega
  · omega
theorem str_inj {a b : ByteArray} (h : a.toList = b.toList) : a = b := by
  rw [ByteArray.toList_eq, ByteArray.toList_eq] at h
  exact ByteArray.ext (Array.toList_inj.1 h)
theorem str_ne {a b : ByteArray} (h : ¬ a = b) : (a.toList == b.toList) = false := by
  rw [beq_eq_false_iff_ne]
  exact fun e => h (str_inj e)
/-- a key's value in a map -/
def valueL : List Pr → ByteArray → ByteArray
  | [], _ => e0
  | p :: m, k => if p.1 = k then p.2 else valueL m k
theorem valueL_step {m : List Pr} {i : Nat} (h : i < m.length) (k : ByteArray) : valueL (m.drop i) k = if (m.getD i pr0).1 = k then (m.getD i pr0).2 else valueL (m.drop (i + 1)) k := by
  rw [List.drop_eq_getElem_cons h]
  simp [valueL, List.getD_eq_getElem?_getD, h]
set_option maxHeartbeats 1000000 in
set_option maxRecDepth 20000 in
theorem value_any (ao : Option Addr) (cap : Nat) (m : List Pr) (k : ByteArray) (w : World) (hm : Prs w ao m) (hl : m.length ≤ 10000000000000) :
    Calls Tryz.prog 15 #[.slice ao m.length cap, .string k] w fun e w' => e = .returned (.string (valueL m k)) ∧ Below w.heap.size w w' := by
  have HM := hide hm
  clear hm
  go_enter Tryz.func15, Tryz.ntmps15
  go_wp2_with fail
  go_loopw [5] (fun iv wr => ∃ i : Nat, i ≤ m.length ∧ iv = .int .i64 (i : Int) ∧ valueL m k = valueL (m.drop i) k ∧ Below w.heap.size w wr) (fun iv _ => m.length - (intOf iv).toNat)
  case atStart => exact ⟨0, by omega, rfl, rfl, Below.refl _ _⟩
  case round =>
    obtain ⟨i, hi, rfl, hv, hbw⟩ := hrel
    have HB := hide hbw
    clear hbw
    by_cases hil : i < m.length
    · have j0 : (0 : Int) ≤ (i : Int) := by omega
      have j1 : (i : Int) < (m.length : Int) := by omega
      rw [valueL_step hil] at hv
      obtain ⟨g1, o1, rfl, x1, x2⟩ := HM.out.keep HB.out i hil
      generalize m.getD i pr0 = t at *
      obtain ⟨t1, t2⟩ := t
      by_cases he : t1 = k
      · rw [if_pos he] at hv
        have HV := hide hv
        subst he
        clear hv
        go_wp2
        go_ret
        exact ⟨by rw [HV.out]; rfl, HB.out⟩
      · rw [if_neg he] at hv
        have HV := hide hv
        have hne := str_ne he
        clear hv he
        go_wp2
        go_roundw
        case rel => exact ⟨i + 1, by omega, by go_num, HV.out, HB.out⟩
        case measure => simp [intOf]; omega
    · obtain rfl : i = m.length := by omega
      have HV : Hid (valueL m k = e0) := by rw [hv, List.drop_length]; rfl
      clear hv
      go_wp2
      go_ret
      exact ⟨by rw [HV.out]; rfl, HB.out⟩
set_option maxHeartbeats 1000000 in
set_option maxRecDepth 20000 in
theorem gets_any (Hk : Nd → ByteArray → Prop) (ok : Nat → Prop) (T : Nat) (st : Value) (n : Nd) (ao : Option Addr) (cap : Nat) (m : List Pr) (k : ByteArray) (w : World) (hA : TreeAt Hk ok w T st n) (hO : TOk n) (hm : Prs w ao m) (hl : m.length ≤ 10000000000000) (hk : k.size ≤ 64) (heq : n.look (pathN k) = valueL m k) :
    Calls Tryz.prog 10 #[ptr T, .slice ao m.length cap, .string k] w fun e w' => e = .returned (.bool true) ∧ Below w.heap.size w w' := by
  have HG := hide (cGet_any Hk ok T st n k w hA hO hk)
  have HV : Hid (∀ W, Below w.heap.size w W → Calls Tryz.prog 15 #[.slice ao m.length cap, .string k] W fun e w' => e = .returned (.string (valueL m k)) ∧ Below w.heap.size w w') := fun W hW => by
    refine (value_any ao cap m k W (hm.keep hW) hl).mono ?_
    rintro e w' ⟨h1, h2⟩
    exact ⟨h1, hW.trans (h2.mono hW.size)⟩
  rw [heq] at HG
  clear hA hO hm heq
  generalize valueL m k = x at *
  unfold ptr at *
  by_cases hx : x.size = 0
  · obtain rfl : x = e0 := e0_of hx
    rw [gotE_no rfl] at HG
    go_enter Tryz.func10, Tryz.ntmps10
    go_wp2_with fail
    refine HG.out.mono ?_
    rintro e w1 ⟨rfl, hb1⟩
    have HB1 := hide hb1
    clear hb1
    go_wp2_with fail
    refine (HV.out _ HB1.out).mono ?_
    rintro e w2 ⟨rfl, hb2⟩
    have HB2 := hide hb2
    clear hb2
    go_wp2
    go_ret
    exact ⟨rfl, HB2.out⟩
  · rw [gotE_yes rfl hx] at HG
    have hv := isEmptyV hx
    go_enter Tryz.func10, Tryz.ntmps10
    go_wp2_with fail
    refine HG.out.mono ?_
    rintro e w1 ⟨rfl, hb1⟩
    have HB1 := hide hb1
    clear hb1
    go_wp2_with fail
    refine (HV.out _ HB1.out).mono ?_
    rintro e w2 ⟨rfl, hb2⟩
    have HB2 := hide hb2
    clear hb2
    go_wp2
    go_ret
    exact ⟨rfl, HB2.out⟩
end Go.Proofs.YtgepjjebjhidiaaGreatDoor
namespace Go.Proofs.YtgepjjebjhidiaaGreatDoor
open Go.RowKit
attribute [local go_sem ↓] Go.wp_at_zero Go.wp_at_succ

def smallP (p : Pr) : Pr := (upToN p.1 64, upToN p.2 400)
def smallL (raw : List Pr) : List Pr := (raw.take 60).map smallP
def upToZ (s : ByteArray) (z : Int) : ByteArray := upToN s z.toNat
theorem upTo_int (s : ByteArray) (z : Int) (w : World) (hs : s.size ≤ 9223372036854775807) (hz : 0 ≤ z) (hz2 : z ≤ 1000000) :
    Calls Tryz.prog 11 #[.string s, .int .i64 z] w fun e w' => e = .returned (.string (upToZ s z)) ∧ w' = w := by
  unfold upToZ
  have h := upTo_any s z.toNat w hs (by omega)
  rwa [Int.toNat_of_nonneg hz] at h
set_option maxHeartbeats 2000000 in
set_option maxRecDepth 20000 in
theorem small_any (ao : Option Addr) (cap : Nat) (raw : List Pr) (w : World) (hm : Prs w ao raw) (hl : raw.length ≤ 10000000000000) (hs : ∀ p ∈ raw, p.1.size ≤ 9223372036854775807 ∧ p.2.size ≤ 9223372036854775807) :
    Calls Tryz.prog 7 #[.slice ao raw.length cap] w fun e w' => ∃ v, e = .returned v ∧ w'.ownsRow w.heap.size 32 2 v (smallL raw).length (pairCells (smallL raw)) ∧ Below w.heap.size w w' := by
  obtain ⟨i0, hi, hz0, hz1, hz2⟩ := info_parts infoPair
  have HM := hide hm
  have HS := hide hs
  clear hm hs
  go_enter Tryz.func7, Tryz.ntmps7
  go_wp2_with fail
  go_loopw [3, 4] (fun lv iv wr => ∃ i : Nat, i ≤ raw.length ∧ i ≤ 60 ∧ iv = .int .i64 (i : Int) ∧ wr.ownsRow w.heap.size 32 2 lv i (pairCells ((raw.take i).map smallP)) ∧ Below w.heap.size w wr) (fun _ iv _ => raw.length - (intOf iv).toNat)
  case atStart => exact ⟨0, by omega, by omega, rfl, World.ownsRow_nil _ _ _ _, Below.refl _ _⟩
  case round =>
    obtain ⟨i, hi1, hi2, rfl, hown, hbw⟩ := hrel
    have HO := hide hown
    have HB := hide hbw
    have j0 : (0 : Int) ≤ (i : Int) := by omega
    clear hbw
    by_cases hil : i < raw.length
    · have j1 : (i : Int) < (raw.length : Int) := by omega
      by_cases h60 : i < 60
      · have j2 : (i : Int) < 60 := by omega
        clear hown
        obtain ⟨g1, o1, rfl, x1, x2⟩ := HM.out.keep HB.out i hil
        have hsz := HS.out _ (getD_in (d := pr0) hil)
        have HN : Hid ((raw.take (i + 1)).map smallP = (raw.take i).map smallP ++ [smallP (raw.getD i pr0)]) := by
          show _ = _
          rw [List.take_succ_eq_append_getElem hil, List.map_append]
          simp [List.getD_eq_getElem?_getD, hil]
        have HGoal : Hid (∀ (w3 : World) v3, w3.ownsRow w.heap.size 32 2 v3 (i + 1) (pairCells ((raw.take i).map smallP) ++ [.string (upToZ (raw.getD i pr0).1 64), .string (upToZ (raw.getD i pr0).2 400)]) → w3.ownsRow w.heap.size 32 2 v3 (i + 1) (pairCells ((raw.take (i + 1)).map smallP))) := fun w3 v3 h => by
          rw [HN.out, pairCells_snoc]
          exact h
        generalize raw.getD i pr0 = t at *
        obtain ⟨t1, t2⟩ := t
        dsimp only at x1 x2 hsz HGoal
        have HU := hide upTo_int
        obtain ⟨hs1, hs2⟩ := hsz
        go_wp2_with fail
        go_region_held3 (fun W => W.cell? ⟨g1, o1 + i * 2, none⟩ = some (.string t1) ∧ W.cell? ⟨g1, o1 + i * 2 + 1, none⟩ = some (.string t2)) (first | go_keep | (simp [*])) ((go_at_call 11; refine (HU.out _ _ _ (by assumption) (by decide) (by decide)).mono ?_; rintro e w2 ⟨rfl, rfl⟩))
        all_goals
          have HO2 := hide (((HO.out.alloc (.cells #[.string (upToZ t1 64), .string (upToZ t2 400)] 32)).drew).alloc (.cells #[.string (upToZ t1 64), .string (upToZ t2 400)] 32))
          have HB2 : Hid (Below w.heap.size w (((wr.alloc (.cells #[.string (upToZ t1 64), .string (upToZ t2 400)] 32)).drew).alloc (.cells #[.string (upToZ t1 64), .string (upToZ t2 400)] 32))) := ((HB.out.alloc HB.out.size _).drew).alloc (by have := HB.out.size; simp; omega) _
          have HW2 : Hid ((((wr.alloc (.cells #[.string (upToZ t1 64), .string (upToZ t2 400)] 32)).drew).alloc (.cells #[.string (upToZ t1 64), .string (upToZ t2 400)] 32)).heap[wr.heap.size + 1]? = some (.cells #[.string (upToZ t1 64), .string (upToZ t2 400)] 32 (0, 0))) := by
            have h := heap_alloc_new ((wr.alloc (.cells #[.string (upToZ t1 64), .string (upToZ t2 400)] 32)).drew) (.cells #[.string (upToZ t1 64), .string (upToZ t2 400)] 32)
            rwa [show ((wr.alloc (.cells #[.string (upToZ t1 64), .string (upToZ t2 400)] 32)).drew).heap.size = wr.heap.size + 1 from World.size_alloc _ _] at h
          go_wp2_with (at_builtin; go_must (refine wpList_append_own _ rfl (.tmp 29) (.tmp 31) 22 rfl w.heap.size 32 i0 _ 2 32 Tryz.underlying22 hi hz0 hz1 hz2 rfl (by decide) _ i _ rfl HO2.out ⟨wr.heap.size + 1, 0, none⟩ 1 1 [.string (upToZ t1 64), .string (upToZ t2 400)] rfl rfl (World.news_of_block HW2.out) (by simp [Value.oneCell']) (by unfold maxLen; omega) (by omega) HB2.out.size ?_); intro v3 w3 ho3 hg3 _; go_must (have HO3 := hide (And.intro ho3 hg3)); clear ho3 hg3)
          go_roundw
          case rel => exact ⟨i + 1, by omega, by omega, by go_num, HGoal.out _ _ HO3.out.1, HB2.out.grown HO3.out.2 HB2.out.size (own_ge HO2.out (Nat.le_refl _))⟩
          case measure => simp [intOf]; omega
      · obtain rfl : i = 60 := by omega
        have HF : Hid (smallL raw = (raw.take 60).map smallP ∧ (smallL raw).length = 60) := ⟨rfl, by simp [smallL]; omega⟩
        rw [← HF.out.1] at hown
        have HX := hide hown
        clear hown
        go_wp2
        go_ret
        exact ⟨_, rfl, by rw [HF.out.2]; exact HX.out, HB.out⟩
    · have hie : i = raw.length := by omega
      have HF : Hid (smallL raw = (raw.take i).map smallP ∧ (smallL raw).length = i) := by
        have e : raw.take 60 = raw.take i := by rw [List.take_of_length_le (by omega), List.take_of_length_le (by omega)]
        exact ⟨by unfold smallL; rw [e], by unfold smallL; rw [e]; simp; omega⟩
      rw [← HF.out.1] at hown
      have HX := hide hown
      have j1 : ¬ (i : Int) < (raw.length : Int) := by omega
      clear hown hie
      go_wp2
      go_ret
      exact ⟨_, rfl, by rw [HF.out.2]; exact HX.out, HB.out⟩
end Go.Proofs.YtgepjjebjhidiaaGreatDoor
namespace Go.Proofs.YtgepjjebjhidiaaGreatDoor
open Go.RowKit
attribute [local go_sem ↓] Go.wp_at_zero Go.wp_at_succ

/-- how many keys are below one -/
def atL : List Pr → ByteArray → Nat
  | [], _ => 0
  | q :: m, k => if Op.bytesLess q.1.toList k.toList = true then atL m k + 1 else 0
theorem atL_le : ∀ (m : List Pr) (k : ByteArray), atL m k ≤ m.length
  | [], _ => Nat.le_refl _
  | q :: m, k => by
    unfold atL
    have := atL_le m k
    split <;> simp <;> omega
theorem atL_lt : ∀ (m : List Pr) (k : ByteArray) (i : Nat), i < atL m k → Op.bytesLess (m.getD i pr0).1.toList k.toList = true
  | [], _, i, h => by simp [atL] at h
  | q :: m, k, i, h => by
    unfold atL at h
    split at h
    · cases i with
      | zero => simpa using ‹_›
      | succ i => simpa using atL_lt m k i (by omega)
    · omega
theorem atL_ge : ∀ (m : List Pr) (k : ByteArray), atL m k < m.length → Op.bytesLess (m.getD (atL m k) pr0).1.toList k.toList = false
  | [], _, h => by simp at h
  | q :: m, k, h => by
    by_cases hq : Op.bytesLess q.1.toList k.toList = true
    · have e : atL (q :: m) k = atL m k + 1 := by rw [atL, if_pos hq]
      rw [e] at h ⊢
      simpa using atL_ge m k (by simpa using h)
    · have e : atL (q :: m) k = 0 := by rw [atL, if_neg hq]
      rw [e]
      simpa using hq
/-- behind the keys that are below one, and that one itself -/
def endL (m : List Pr) (k : ByteArray) : Nat := if atL m k < m.length ∧ (m.getD (atL m k) pr0).1 = k then atL m k + 1 else atL m k
/-- a map, with a key's value (none: without) -/
def laidL (m : List Pr) (p : Pr) : List Pr := m.take (atL m p.1) ++ (if p.2.size = 0 then [] else [p]) ++ m.drop (endL m p.1)
theorem laidL_len (m : List Pr) (p : Pr) : (laidL m p).length ≤ m.length + 1 := by
  have h1 := atL_le m p.1
  unfold laidL endL
  split <;> split <;> simp <;> omega

theorem pairCells_append (xs ys : List Pr) : pairCells (xs ++ ys) = pairCells xs ++ pairCells ys := by simp [pairCells]
theorem pairCells_len (xs : List Pr) : (pairCells xs).length = xs.length * 2 := by
  induction xs with
  | nil => rfl
  | cons x xs ih =>
    have e : pairCells (x :: xs) = [.string x.1, .string x.2] ++ pairCells xs := rfl
    rw [e, List.length_append, ih]
    simp; omega
theorem pairCells_get (xs : List Pr) (i : Nat) (h : i < xs.length) : (pairCells xs)[i * 2]? = some (.string (xs.getD i pr0).1) ∧ (pairCells xs)[i * 2 + 1]? = some (.string (xs.getD i pr0).2) := by
  induction xs generalizing i with
  | nil => simp at h
  | cons x xs ih =>
    have e : pairCells (x :: xs) = .string x.1 :: .string x.2 :: pairCells xs := rfl
    rw [e]
    cases i with
    | zero => simp
    | succ i =>
      have := ih i (by simpa using h)
      rw [show (i + 1) * 2 = i * 2 + 1 + 1 from by omega]
      simpa using this
theorem pairCells_one (xs : List Pr) : ∀ u ∈ pairCells xs, u.oneCell' = true := fun u hu => by
  obtain ⟨s, rfl⟩ := pairCells_str xs u hu
  rfl
/-- pairs of a row of one's own -/
theorem Prs.own {w : World} {base c : Nat} {ao : Option Addr} {ps : List Pr} (h : w.ownsRow base 32 2 (.slice ao ps.length c) ps.length (pairCells ps)) : Prs w ao ps := by
  intro i hi
  rcases h.2 with ⟨_, h0⟩ | ⟨g, c', cur, hh, _⟩
  · omega
  · injection hh with hh1 _ _
    obtain ⟨k1, k2⟩ := pairCells_get ps i hi
    have c1 := h.cells (g := g) (by rw [hh1]; rfl) _ _ k1
    have c2 := h.cells (g := g) (by rw [hh1]; rfl) _ _ k2
    rw [addr_add] at c1 c2
    exact ⟨g, 0, hh1, c1, c2⟩
theorem prs_reads {w : World} {g o : Nat} {ps : List Pr} (h : Prs w (some ⟨g, o, none⟩) ps) (a n cap : Nat) (hn : a + n ≤ ps.length) : Reads w (.slice (some ⟨g, o + a * 2, none⟩) n cap) n (pairCells ((ps.drop a).take n)) := by
  refine .inr ⟨_, cap, rfl, fun j u hu => ?_⟩
  have hj := (List.getElem?_eq_some_iff.1 hu).1
  have hlen : ((ps.drop a).take n).length = n := by simp; omega
  rw [pairCells_len, hlen] at hj
  have hi : j / 2 < ((ps.drop a).take n).length := by rw [hlen]; omega
  obtain ⟨k1, k2⟩ := pairCells_get _ (j / 2) hi
  obtain ⟨g', o', e, c1, c2⟩ := h (a + j / 2) (by omega)
  obtain ⟨rfl, rfl⟩ : g = g' ∧ o = o' := by simpa using e
  have eg : ((ps.drop a).take n).getD (j / 2) pr0 = ps.getD (a + j / 2) pr0 := by
    simp only [List.getD_eq_getElem?_getD, List.getElem?_take, List.getElem?_drop]
    rw [if_pos (by omega)]
  rw [eg] at k1 k2
  rw [addr_add]
  have h2 : j % 2 = 0 ∨ j % 2 = 1 := by omega
  rcases h2 with h2 | h2
  · have ej : j / 2 * 2 = j := by omega
    rw [ej] at k1
    rw [k1] at hu
    rw [← hu, ← c1]
    congr 2; omega
  · have ej : j / 2 * 2 + 1 = j := by omega
    rw [ej] at k2
    rw [k2] at hu
    rw [← hu, ← c2]
    congr 2; omega
/-- laid, on its way -/
structure LaSt (w : World) (p : Pr) (W : World) (ov : Value) (xs : List Pr) : Prop where
  bel : Below w.heap.size w W
  box : W.heap[w.heap.size]? = some (.cells #[.string p.1, .string p.2] 32 (0, 0))
  own : W.ownsRow (w.heap.size + 1) 32 2 ov xs.length (pairCells xs)
theorem LaSt.keep {w W W' : World} {p : Pr} {ov : Value} {xs : List Pr} (h : LaSt w p W ov xs) (hb : Below W.heap.size W W') : LaSt w p W' ov xs := by
  refine ⟨h.bel.trans (hb.mono h.bel.size), (hb.block _ (Array.getElem?_eq_some_iff.1 h.box).1).trans h.box, h.own.1, ?_⟩
  rcases h.own.2 with h4 | ⟨g, c, cur, k1, k2, k3, k4⟩
  · exact .inl h4
  · exact .inr ⟨g, c, cur, k1, k2, (hb.block _ (Array.getElem?_eq_some_iff.1 k3).1).trans k3, k4⟩
theorem LaSt.app {w W w3 : World} {p : Pr} {ov v3 : Value} {xs ys : List Pr} (h : LaSt w p W ov xs) (ho : w3.ownsRow (w.heap.size + 1) 32 2 v3 (xs.length + ys.length) (pairCells xs ++ pairCells ys)) (hg : W.grownBy w3 ov.ownBlock) : LaSt w p w3 v3 (xs ++ ys) := by
  have hlt := (Array.getElem?_eq_some_iff.1 h.box).1
  refine ⟨h.bel.grown hg h.bel.size (fun r e => by have := own_ge h.own (Nat.le_refl _) r e; omega), ?_, ?_⟩
  · rw [hg.block _ hlt (fun e => by have := own_ge h.own (Nat.le_refl _) _ e.symm; omega)]
    exact h.box
  · rw [List.length_append, pairCells_append]
    exact ho
theorem LaSt.start (w : World) (p : Pr) : LaSt w p (w.alloc (.cells #[.string p.1, .string p.2] 32)) (.slice none 0 0) [] := ⟨below_alloc _ _, heap_alloc_new w _, World.ownsRow_nil _ _ _ _⟩
end Go.Proofs.YtgepjjebjhidiaaGreatDoor
