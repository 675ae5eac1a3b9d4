/-
  OUR OWN: codes: parts in memory; what a fold of parts is; the program's fold over measures.
-/
import Derived.Test.YtoafiieciiijbaaEncD
namespace Go.Proofs.Ytoafiieciiijbaa
open Go.RowKit
attribute [local go_sem ↓] Go.wp_at_zero Go.wp_at_succ

/-- the parts from the last to the first: a stack -/
def foldS {T : Type} (txt : ByteArray → T) (lst : List T → T) : List IPrt → Option (List T)
  | [] => some []
  | p :: r => match foldS txt lst r with
    | none => none
    | some st => if sndP p = true ∧ p.2.1 ≤ (st.length : Int) then some ((if p.1 = true then lst (st.take p.2.1.toNat) else txt p.2.2) :: st.drop p.2.1.toNat) else none
def foldO {T : Type} (z : T) : Option (List T) → T × Bool
  | some [x] => (x, true)
  | _ => (z, false)
theorem foldS_none {T : Type} {txt : ByteArray → T} {lst : List T → T} {p : IPrt} {r : List IPrt} (h : foldS txt lst r = none) : foldS txt lst (p :: r) = none := by simp [foldS, h]
theorem foldS_bad {T : Type} {txt : ByteArray → T} {lst : List T → T} {p : IPrt} {r : List IPrt} {st : List T} (h : foldS txt lst r = some st) (hb : ¬ (sndP p = true ∧ p.2.1 ≤ (st.length : Int))) : foldS txt lst (p :: r) = none := by
  unfold foldS; rw [h]; exact if_neg hb
theorem foldS_list {T : Type} {txt : ByteArray → T} {lst : List T → T} {p : IPrt} {r : List IPrt} {st : List T} (h : foldS txt lst r = some st) (hb : sndP p = true ∧ p.2.1 ≤ (st.length : Int)) (hl : p.1 = true) : foldS txt lst (p :: r) = some (lst (st.take p.2.1.toNat) :: st.drop p.2.1.toNat) := by
  unfold foldS; rw [h]; simp [hb, hl]
theorem foldS_text {T : Type} {txt : ByteArray → T} {lst : List T → T} {p : IPrt} {r : List IPrt} {st : List T} (h : foldS txt lst r = some st) (hb : sndP p = true ∧ p.2.1 ≤ (st.length : Int)) (hl : p.1 = false) : foldS txt lst (p :: r) = some (txt p.2.2 :: st) := by
  have h0 : p.2.1 = 0 := by
    have := hb.1
    simpa [sndP, hl] using this
  unfold foldS; rw [h]; simp [hb, hl, h0]
theorem foldS_drop_none {T : Type} {txt : ByteArray → T} {lst : List T → T} : ∀ (ps : List IPrt) (k : Nat), foldS txt lst (ps.drop k) = none → foldS txt lst ps = none
  | ps, 0, h => by simpa using h
  | [], k + 1, h => by simpa using h
  | p :: r, k + 1, h => foldS_none (foldS_drop_none r k (by simpa using h))
theorem foldS_len {T : Type} {txt : ByteArray → T} {lst : List T → T} : ∀ (ps : List IPrt) (st : List T), foldS txt lst ps = some st → st.length ≤ ps.length
  | [], st, h => by simp [foldS] at h; subst h; simp
  | p :: r, st, h => by
    unfold foldS at h
    split at h
    · cases h
    · rename_i s0 h0
      have := foldS_len r s0 h0
      split at h
      · simp only [Option.some.injEq] at h
        rw [← h]; simp; omega
      · cases h
theorem snd_count {p : IPrt} (h : sndP p = true) : 0 ≤ p.2.1 := by
  unfold sndP at h
  split at h
  · simp at h; exact h.1
  · simp at h; omega
theorem drop_step {α : Type} (ps : List α) (i : Nat) (h : i < ps.length) : ps.drop i = ps[i] :: ps.drop (i + 1) := List.drop_eq_getElem_cons h

/-- parts in memory -/
def icell (p : IPrt) : List Value := [.bool p.1, .int .i64 p.2.1, .string p.2.2]
def icells (ps : List IPrt) : List Value := ps.flatMap icell
theorem icells_length (ps : List IPrt) : (icells ps).length = ps.length * 3 := by
  induction ps with
  | nil => rfl
  | cons p r ih => simp [icells, icell] at ih ⊢; omega
theorem icells_nth (ps : List IPrt) (k : Nat) (h : k < ps.length) : (icells ps)[k * 3]? = some (.bool (ps.getD k (false, 0, ⟨#[]⟩)).1) ∧ (icells ps)[k * 3 + 1]? = some (.int .i64 (ps.getD k (false, 0, ⟨#[]⟩)).2.1) ∧ (icells ps)[k * 3 + 2]? = some (.string (ps.getD k (false, 0, ⟨#[]⟩)).2.2) := by
  have e : ps = ps.take k ++ ps.getD k (false, 0, ⟨#[]⟩) :: ps.drop (k + 1) := by
    simp [List.getD_eq_getElem?_getD, h]
  have hk : (ps.take k).length = k := by simp; omega
  have hl : (icells (ps.take k)).length = k * 3 := by rw [icells_length, hk]
  have h2 : icells ps = icells (ps.take k) ++ icells (ps.getD k (false, 0, ⟨#[]⟩) :: ps.drop (k + 1)) := by
    have : icells (ps.take k ++ ps.getD k (false, 0, ⟨#[]⟩) :: ps.drop (k + 1)) = icells (ps.take k) ++ icells (ps.getD k (false, 0, ⟨#[]⟩) :: ps.drop (k + 1)) := by simp only [icells, List.flatMap_append]
    rw [← this, ← e]
  rw [h2]
  refine ⟨?_, ?_, ?_⟩
  · rw [List.getElem?_append_right (by omega), hl, Nat.sub_self]; simp [icells, icell]
  · rw [List.getElem?_append_right (by omega), hl, show k * 3 + 1 - k * 3 = 1 from by omega]; simp [icells, icell]
  · rw [List.getElem?_append_right (by omega), hl, show k * 3 + 2 - k * 3 = 2 from by omega]; simp [icells, icell]
def IPrts (w : World) (ao : Option Addr) (ps : List IPrt) : Prop := ∀ k, k < ps.length → ∃ b off, ao = some ⟨b, off, none⟩ ∧ w.cell? ⟨b, off + k * 3, none⟩ = some (.bool (ps.getD k (false, 0, ⟨#[]⟩)).1) ∧ w.cell? ⟨b, off + k * 3 + 1, none⟩ = some (.int .i64 (ps.getD k (false, 0, ⟨#[]⟩)).2.1) ∧ w.cell? ⟨b, off + k * 3 + 2, none⟩ = some (.string (ps.getD k (false, 0, ⟨#[]⟩)).2.2)
theorem IPrts.keep {w w' : World} {ao : Option Addr} {ps : List IPrt} (h : IPrts w ao ps) {B : Nat} (hb : Below B w w') (hB : w.heap.size ≤ B) : IPrts w' ao ps := fun k hk => by
  obtain ⟨b, off, h1, h2, h3, h4⟩ := h k hk
  have hl := World.block_lt_of_cell? w _ h2
  have := World.cell?_of_block (w := w) (w' := w') (a := ⟨b, off + k * 3, none⟩) (hb.block b (Nat.lt_of_lt_of_le hl hB))
  have h6 := World.cell?_of_block (w := w) (w' := w') (a := ⟨b, off + k * 3 + 1, none⟩) (hb.block b (Nat.lt_of_lt_of_le hl hB))
  have h7 := World.cell?_of_block (w := w) (w' := w') (a := ⟨b, off + k * 3 + 2, none⟩) (hb.block b (Nat.lt_of_lt_of_le hl hB))
  exact ⟨b, off, h1, this.trans h2, h6.trans h3, h7.trans h4⟩

/-- the measures that are ready -/
structure RdM (w : World) (R n : Nat) (st : List (Nat × Nat)) : Prop where
  blk : ∃ cur, w.heap[R]? = some (.cells cur 84 (0, 0)) ∧ cur.size = n * 2
  len : st.length ≤ n
  at' : MsAt w R ((n - st.length) * 2) st
theorem RdM.keep {w w' : World} {R n : Nat} {st : List (Nat × Nat)} (h : RdM w R n st) (hb : w'.heap[R]? = w.heap[R]?) : RdM w' R n st := by
  refine ⟨?_, h.len, fun j hj => ?_⟩
  · rw [hb]; exact h.blk
  · obtain ⟨a, b⟩ := h.at' j hj
    exact ⟨(World.cell?_of_block (w := w) (a := ⟨R, (n - st.length) * 2 + j * 2, none⟩) hb).trans a, (World.cell?_of_block (w := w) (a := ⟨R, (n - st.length) * 2 + j * 2 + 1, none⟩) hb).trans b⟩
theorem RdM.lt {w : World} {R n : Nat} {st : List (Nat × Nat)} (h : RdM w R n st) : R < w.heap.size := by
  obtain ⟨cur, h1, _⟩ := h.blk
  exact (Array.getElem?_eq_some_iff.1 h1).1
theorem RdM.cell {w : World} {R n : Nat} {st : List (Nat × Nat)} (h : RdM w R n st) (j : Nat) (hj : j < n * 2) : (∃ u, w.cell? ⟨R, j, none⟩ = some u) ∧ w.frozen? ⟨R, j, none⟩ = false := by
  obtain ⟨cur, h1, h2⟩ := h.blk
  refine ⟨?_, frozen_of_row w R j _ _ h1⟩
  rw [cell_of_row w R j _ _ (0, 0) h1]
  exact ⟨_, Array.getElem?_eq_getElem (by omega)⟩
theorem RdM.push {w : World} {R n : Nat} {st : List (Nat × Nat)} (h : RdM w R n st) (c f : Nat) (hc : c ≤ st.length) (hf : f + (st.length - c) + 1 = n) (m : Nat × Nat) :
    RdM ((w.setCell ⟨R, f * 2, none⟩ (.int .i64 (m.1 : Int))).setCell ⟨R, f * 2 + 1, none⟩ (.int .i64 (m.2 : Int))) R n (m :: st.drop c) := by
  obtain ⟨cur, h1, h2⟩ := h.blk
  have e1 := heap_setCell_same w R (f * 2) cur 84 (.int .i64 (m.1 : Int)) h1
  have e2 := heap_setCell_same _ R (f * 2 + 1) _ 84 (.int .i64 (m.2 : Int)) e1
  have hl : (m :: st.drop c).length = st.length - c + 1 := by simp
  refine ⟨⟨_, e2, by simp [h2]⟩, by omega, fun j hj => ?_⟩
  rw [hl] at hj
  have hfn : n - (m :: st.drop c).length = f := by omega
  rw [hfn]
  have c1 := cell_of_row _ R (f * 2 + j * 2) _ _ (0, 0) e2
  have c2 := cell_of_row _ R (f * 2 + j * 2 + 1) _ _ (0, 0) e2
  rw [c1, c2]
  cases j with
  | zero =>
    simp [Array.getElem?_setIfInBounds, h2]
    omega
  | succ j =>
    have hj2 : c + j < st.length := by omega
    obtain ⟨a, b⟩ := h.at' (c + j) hj2
    have hln := h.len
    have ea : (n - st.length) * 2 + (c + j) * 2 = f * 2 + (j + 1) * 2 := by omega
    rw [ea] at a b
    rw [cell_of_row w R _ _ _ (0, 0) h1] at a b
    have eg : (m :: st.drop c).getD (j + 1) (0, 0) = st.getD (c + j) (0, 0) := by simp [List.getD_eq_getElem?_getD]
    rw [eg]
    rw [Array.getElem?_setIfInBounds_ne (by omega), Array.getElem?_setIfInBounds_ne (by omega), Array.getElem?_setIfInBounds_ne (by omega), Array.getElem?_setIfInBounds_ne (by omega)]
    exact ⟨a, b⟩
theorem MsAt.take {w : World} {R o : Nat} {st : List (Nat × Nat)} (h : MsAt w R o st) (c : Nat) : MsAt w R o (st.take c) := fun j hj => by
  have hj1 : j < c := by rw [List.length_take] at hj; omega
  have hj2 : j < st.length := by rw [List.length_take] at hj; omega
  have e : (st.take c).getD j (0, 0) = st.getD j (0, 0) := by simp [List.getD_eq_getElem?_getD, hj1]
  rw [e]; exact h j hj2
theorem make_ms (n : Nat) (h : n ≤ 400) (w : World) : (Instr.makeSlice 107 (.int .i64 (n : Int)) (.int .i64 (n : Int))).run Try.prog w =
    .ok (.slice (some ⟨w.heap.size, 0, none⟩) n n) (w.alloc (.cells (madeCells #[.int .i64 0, .int .i64 0] (n * 2)) 84)) := by
  obtain ⟨i0, hi, hz0, hz1, hz2⟩ := info_parts (show (Try.prog.info? 84).map (fun i => (i.zero, i.size, i.bytes)) = some (some (.agg #[.int .i64 0, .int .i64 0]), 2, 16) by kernel_rfl)
  have h := run_make (P := Try.prog) w 107 84 i0 (.agg #[.int .i64 0, .int .i64 0]) Try.underlying107 hi hz0 .i64 .i64 (n : Int) (n : Int) (by omega) (by omega) (by rw [hz2]; omega) (by omega)
  simpa [hz1, Value.cells] using h
/-- the two cells of the answer and of the empty measure -/
def Z2 (w : World) (B : Nat) : Prop := w.heap[B]? = some (.cells #[.int .i64 0, .int .i64 0] 84 (0, 0))
theorem Z2.get {w : World} {B : Nat} (h : Z2 w B) : w.cell? ⟨B, 0, none⟩ = some (.int .i64 0) ∧ w.cell? ⟨B, 1, none⟩ = some (.int .i64 0) ∧ w.frozen? ⟨B, 0, none⟩ = false ∧ w.frozen? ⟨B, 1, none⟩ = false :=
  ⟨cell_of_row w B 0 _ _ (0, 0) h, cell_of_row w B 1 _ _ (0, 0) h, frozen_of_row w B 0 _ _ h, frozen_of_row w B 1 _ _ h⟩
theorem Z2.keep {w w' : World} {B : Nat} (h : Z2 w B) (hb : w'.heap[B]? = w.heap[B]?) : Z2 w' B := by unfold Z2; rw [hb]; exact h
/-- the part that is looked at -/
def P3 (w : World) (B : Nat) (p : IPrt) : Prop := w.heap[B]? = some (.cells #[.bool p.1, .int .i64 p.2.1, .string p.2.2] 24 (0, 0))
theorem P3.get {w : World} {B : Nat} {p : IPrt} (h : P3 w B p) : w.cell? ⟨B, 0, none⟩ = some (.bool p.1) ∧ w.cell? ⟨B, 1, none⟩ = some (.int .i64 p.2.1) ∧ w.cell? ⟨B, 2, none⟩ = some (.string p.2.2) :=
  ⟨cell_of_row w B 0 _ _ (0, 0) h, cell_of_row w B 1 _ _ (0, 0) h, cell_of_row w B 2 _ _ (0, 0) h⟩
theorem P3.keep {w w' : World} {B : Nat} {p : IPrt} (h : P3 w B p) (hb : w'.heap[B]? = w.heap[B]?) : P3 w' B p := by unfold P3; rw [hb]; exact h
theorem msL_size (ms : List (Nat × Nat)) : (msL ms).1 ≤ 6001 := codeSz_le _
theorem msT_size (s : ByteArray) : (msT s).1 ≤ 6001 := by
  unfold msT; split
  · simp
  · exact codeSz_le _

theorem RdM.step {w2 : World} {R n Q : Nat} {st : List (Nat × Nat)} (h : RdM w2 R n st) (hQ : ¬ Q = R) (a b : Value) (C f : Nat) (hc : C ≤ st.length) (hf : f + (st.length - C) + 1 = n) (m : Nat × Nat) :
    RdM ((((w2.setCell ⟨Q, 0, none⟩ a).setCell ⟨Q, 1, none⟩ b).setCell ⟨R, f * 2, none⟩ (.int .i64 (m.1 : Int))).setCell ⟨R, f * 2 + 1, none⟩ (.int .i64 (m.2 : Int))) R n (m :: st.drop C) := by
  refine RdM.push (h.keep ?_) C f hc hf m
  rw [Below.heap_setCell _ _ _ _ (fun e => hQ e.symm), Below.heap_setCell _ _ _ _ (fun e => hQ e.symm)]
theorem mem_push {st : List (Nat × Nat)} {m : Nat × Nat} {C N i : Nat} (h : ∀ x ∈ st, x.1 ≤ 6001 ∧ x.2 ≤ N - (i + 1)) (h1 : m.1 ≤ 6001) (h2 : m.2 ≤ N - i) : ∀ x ∈ m :: st.drop C, x.1 ≤ 6001 ∧ x.2 ≤ N - i := by
  intro x hx
  rcases List.mem_cons.1 hx with rfl | hx
  · exact ⟨h1, h2⟩
  · have := h x (List.mem_of_mem_drop hx)
    exact ⟨this.1, by omega⟩

set_option maxHeartbeats 4000000 in
set_option maxRecDepth 20000 in
theorem foldM_any (ao : Option Addr) (cap : Nat) (ps : List IPrt) (w : World) (hn : ps.length ≤ 400) (hp : IPrts w ao ps) (hs : ∀ p ∈ ps, p.2.2.size ≤ 281474976710656) :
    Calls Try.prog 41 #[.slice ao ps.length cap, .func (.func 42) #[] #[], .func (.func 43) #[] #[]] w fun e w' => e = .returned (.tuple #[msV (foldO (0, 0) (foldS msT msL ps)).1, .bool (foldO (0, 0) (foldS msT msL ps)).2]) ∧ Below w.heap.size w w' := by
  obtain ⟨M, hM, hmk⟩ : ∃ M : Array Value, Hid (M.size = ps.length * 2) ∧ ∀ W : World, (Instr.makeSlice 107 (.int .i64 (ps.length : Int)) (.int .i64 (ps.length : Int))).run Try.prog W = .ok (.slice (some ⟨W.heap.size, 0, none⟩) ps.length ps.length) (W.alloc (.cells M 84)) :=
    ⟨_, by show _ = _; rw [size_madeCells], make_ms ps.length hn⟩
  have HP := hide hp
  have HSz := hide hs
  clear hp hs
  have nI : (ps.length : Int) ≤ 400 := by omega
  go_enter Try.func41, Try.ntmps41
  go_wp2
  obtain ⟨W0, hW0⟩ : ∃ W0, W0 = ((w.alloc (.cells #[.int .i64 0, .int .i64 0] 84)).alloc (.cells #[.int .i64 0, .int .i64 0] 84)).alloc (.cells M 84) := ⟨_, rfl⟩
  have HZ0 : Hid (Z2 W0 w.heap.size) := by
    show Z2 _ _
    rw [hW0]; unfold Z2
    rw [Below.heap_alloc _ _ _ (by simp; omega), Below.heap_alloc _ _ _ (by simp)]
    exact heap_alloc_new w _
  have HZ1 : Hid (Z2 W0 (w.heap.size + 1)) := by
    show Z2 _ _
    rw [hW0]; unfold Z2
    rw [Below.heap_alloc _ _ _ (by simp)]
    have := heap_alloc_new (w.alloc (.cells #[.int .i64 0, .int .i64 0] 84)) (.cells #[.int .i64 0, .int .i64 0] 84)
    simpa using this
  have HR0 : Hid (RdM W0 (w.heap.size + 1 + 1) ps.length []) := by
    refine ⟨⟨M, ?_, hM.out⟩, Nat.zero_le _, fun j hj => by simp at hj⟩
    rw [hW0]
    have := heap_alloc_new ((w.alloc (.cells #[.int .i64 0, .int .i64 0] 84)).alloc (.cells #[.int .i64 0, .int .i64 0] 84)) (.cells M 84)
    simpa using this
  have HBW : Hid (Below w.heap.size w W0) := by
    show Below _ _ _
    rw [hW0]
    exact (below_alloc2 _ _ _).alloc (by simp; omega) _
  rw [← hW0]
  clear hW0 hmk
  obtain ⟨R, hR⟩ : ∃ R, Hid (w.heap.size + 1 + 1 = R) := ⟨_, rfl⟩
  rw [hR.out] at HR0 ⊢
  have hRw : w.heap.size + 1 < R := by have := hR.out; omega
  go_loopw [10, 11] (fun fv iv wr => ∃ (k : Nat) (st : List (Nat × Nat)), k ≤ ps.length ∧ iv = .int .i64 ((k : Int) - 1) ∧ foldS msT msL (ps.drop k) = some st ∧ fv = .int .i64 ((ps.length - st.length : Nat) : Int) ∧ RdM wr R ps.length st ∧ Below R W0 wr ∧ (∀ m ∈ st, m.1 ≤ 6001 ∧ m.2 ≤ ps.length - k) ∧ st.length ≤ ps.length - k) (fun _ iv _ => (intOf iv + 1).toNat)
  case atStart => exact ⟨ps.length, [], Nat.le_refl _, rfl, by simp [foldS], by simp, HR0.out, Below.refl _ _, by simp, by simp⟩
  case round =>
    obtain ⟨k, st, hk, rfl, hf, rfl, hrd, hbw, hbd, hsl⟩ := hrel
    have HF := hide hf
    have HRd := hide hrd
    have HBR := hide hbw
    have HBD := hide hbd
    clear hf hrd hbw hbd
    have HBA : Hid (Below w.heap.size w wr) := HBW.out.trans (HBR.out.mono (by omega))
    obtain ⟨r0, r1, g0, g1⟩ := (HZ0.out.keep (HBR.out.block _ (by omega))).get
    obtain ⟨z0, z1, _, _⟩ := (HZ1.out.keep (HBR.out.block _ (by omega))).get
    have hle := HRd.out.len
    cases k with
    | zero =>
      have HF0 : Hid (foldS msT msL ps = some st) := by have := HF.out; show _ = _; simpa using this
      by_cases h1 : st.length = 1
      · obtain ⟨m, rfl⟩ := List.length_eq_one_iff.1 h1
        obtain ⟨F, hF⟩ : ∃ F, Hid (ps.length - [m].length = F) := ⟨_, rfl⟩
        have hFe : (F : Int) = (ps.length : Int) - 1 := by have := hF.out; simp at this hle; omega
        have hFn : ((F : Int) != (ps.length : Int) - 1) = false := by simp [hFe]
        obtain ⟨m0, m1⟩ := HRd.out.at' 0 (by simp)
        rw [hF.out] at m0 m1 ⊢
        simp only [Nat.zero_mul, Nat.add_zero, List.getD_cons_zero] at m0 m1
        have hF0 : (0 : Int) ≤ (F : Int) := by omega
        have hFl : (F : Int) < (ps.length : Int) := by omega
        clear hFe
        rw [show ((0 : Nat) : Int) - 1 = -1 from rfl]
        go_wp2
        refine bodyPost_ret (v := .tuple #[msV m, .bool true]) (by simp [results, Try.results41, go_sem, msV, r0, r1]) rfl ⟨by rw [HF0.out]; rfl, ?_⟩
        exact (HBA.out.setCell (Nat.le_refl _) _).setCell (Nat.le_refl _) _
      · obtain ⟨F, hF⟩ : ∃ F, Hid (ps.length - st.length = F) := ⟨_, rfl⟩
        have hFn : ((F : Int) != (ps.length : Int) - 1) = true := by have := hF.out; simp; omega
        rw [hF.out]
        have HO : Hid (foldO (0, 0) (some st) = ((0, 0), false)) := by
          show _ = _
          match st, h1 with
          | [], _ => rfl
          | [x], h => simp at h
          | x :: y :: r, _ => rfl
        rw [show ((0 : Nat) : Int) - 1 = -1 from rfl]
        go_wp2
        refine bodyPost_ret (v := .tuple #[msV (0, 0), .bool false]) (by simp [results, Try.results41, go_sem, msV, r0, r1]) rfl ⟨by rw [HF0.out, HO.out], ?_⟩
        exact (HBA.out.setCell (Nat.le_refl _) _).setCell (Nat.le_refl _) _
    | succ i =>
      have hi : i < ps.length := by omega
      rw [show ((i + 1 : Nat) : Int) - 1 = (i : Int) from by omega]
      obtain ⟨b, off, hao, p0, p1, p2⟩ := HP.out.keep HBA.out (Nat.le_refl _) i hi
      subst hao
      have hpg : ps.getD i (false, 0, ⟨#[]⟩) = ps[i] := by simp [List.getD_eq_getElem?_getD, hi]
      have HDr : Hid (ps.drop i = ps.getD i (false, 0, ⟨#[]⟩) :: ps.drop (i + 1)) := by show _ = _; rw [hpg]; exact drop_step ps i hi
      have HPz : Hid ((ps.getD i (false, 0, ⟨#[]⟩)).2.2.size ≤ 281474976710656) := by show _ ≤ _; rw [hpg]; exact HSz.out _ (List.getElem_mem hi)
      clear hpg
      generalize ps.getD i (false, 0, ⟨#[]⟩) = p at *
      obtain ⟨l, c, d⟩ := p
      simp only at p0 p1 p2 HPz
      have HPW : Hid (P3 (wr.alloc (.cells #[.bool l, .int .i64 c, .string d] 24)) wr.heap.size (l, c, d)) := heap_alloc_new wr _
      have HBP : Hid (Below R W0 (wr.alloc (.cells #[.bool l, .int .i64 c, .string d] 24))) := HBR.out.alloc (by have := HRd.out.lt; omega) _
      have HRP : Hid (RdM (wr.alloc (.cells #[.bool l, .int .i64 c, .string d] 24)) R ps.length st) := HRd.out.keep (Below.heap_alloc _ _ _ HRd.out.lt)
      have HRl : Hid (R < wr.heap.size) := HRd.out.lt
      have b0 : (0 : Int) ≤ (i : Int) := by omega
      have b1 : (i : Int) < (ps.length : Int) := by omega
      clear r0 r1 g0 g1 z0 z1
      go_wp2_with fail
      refine (sound_any (l, c, d) _).mono ?_
      rintro e w1 ⟨rfl, hb1⟩
      have HB1 : Hid (Below R W0 w1) := HBP.out.trans (hb1.mono (by have := HRl.out; simp; omega))
      have HR1 : Hid (RdM w1 R ps.length st) := HRP.out.keep (hb1.block _ (by have := HRl.out; simp; omega))
      have HP1 : Hid (P3 w1 wr.heap.size (l, c, d)) := HPW.out.keep (hb1.block _ (by simp))
      have HPl : Hid (wr.heap.size < w1.heap.size) := by have := hb1.size; simp at this; show _ < _; omega
      clear hb1 HBP HRP HPW
      obtain ⟨r0, r1, g0, g1⟩ := (HZ0.out.keep (HB1.out.block _ (by omega))).get
      obtain ⟨z0, z1, _, _⟩ := (HZ1.out.keep (HB1.out.block _ (by omega))).get
      obtain ⟨q0, q1, q2⟩ := HP1.out.get
      simp only at q0 q1 q2
      have HBA1 : Hid (Below w.heap.size w w1) := HBW.out.trans (HB1.out.mono (by omega))
      clear p0 p1 p2
      obtain ⟨F, hF⟩ : ∃ F, Hid (ps.length - st.length = F) := ⟨_, rfl⟩
      rw [hF.out]
      have hFs : (ps.length : Int) - (F : Int) = (st.length : Int) := by have := hF.out; omega
      have bad : sndP (l, c, d) = false ∨ (st.length : Int) < c → foldS msT msL ps = none := fun h => foldS_drop_none ps i (by
        rw [HDr.out]
        refine foldS_bad HF.out ?_
        rintro ⟨h1, h2⟩
        rcases h with h | h
        · rw [h] at h1; cases h1
        · simp only at h2; omega)
      cases hsn : sndP (l, c, d) with
      | false =>
        have HN := hide (bad (.inl hsn))
        clear bad hsn
        go_wp2
        refine bodyPost_ret (v := .tuple #[msV (0, 0), .bool false]) (by simp [results, Try.results41, go_sem, msV, r0, r1]) rfl ⟨by rw [HN.out]; rfl, ?_⟩
        exact (HBA1.out.setCell (Nat.le_refl _) _).setCell (Nat.le_refl _) _
      | true =>
        by_cases hc : (st.length : Int) < c
        · have HN := hide (bad (.inr hc))
          have hc2 : (ps.length : Int) - (F : Int) < c := by omega
          clear bad hsn
          go_wp2
          refine bodyPost_ret (v := .tuple #[msV (0, 0), .bool false]) (by simp [results, Try.results41, go_sem, msV, r0, r1]) rfl ⟨by rw [HN.out]; rfl, ?_⟩
          exact (HBA1.out.setCell (Nat.le_refl _) _).setCell (Nat.le_refl _) _
        · have hsn2 := hsn
          have hc0 : 0 ≤ c := snd_count hsn
          obtain ⟨C, rfl⟩ : ∃ C : Nat, c = (C : Int) := ⟨c.toNat, by omega⟩
          have hCs : C ≤ st.length := by omega
          have HSN := hide hsn
          clear bad hsn hc0 hsn2
          have hFl : (F : Int) ≤ (ps.length : Int) := by have := hF.out; omega
          have hC1 : (C : Int) ≤ (ps.length : Int) - (F : Int) := by have := hF.out; omega
          have hC2 : (F : Int) + (C : Int) ≤ (ps.length : Int) := by omega
          have hQ : ¬ w1.heap.size = wr.heap.size := by have := HPl.out; omega
          have hQ2 : ¬ w1.heap.size = R := by have := HPl.out; have := HRl.out; omega
          have qa := fun o => (P3.keep HP1.out (Below.heap_alloc w1 o _ HPl.out)).get
          have qb0 : ∀ o, (w1.alloc o).cell? ⟨wr.heap.size, 0, none⟩ = some (.bool l) := fun o => (qa o).1
          have qb1 : ∀ o, (w1.alloc o).cell? ⟨wr.heap.size, 1, none⟩ = some (.int .i64 (C : Int)) := fun o => (qa o).2.1
          have qb2 : ∀ o, (w1.alloc o).cell? ⟨wr.heap.size, 2, none⟩ = some (.string d) := fun o => (qa o).2.2
          clear qa
          have hFi : i + 1 ≤ F := by have := hF.out; omega
          cases l with
          | false =>
            obtain rfl : C = 0 := by have := HSN.out; simp [sndP] at this; omega
            obtain ⟨f, hf⟩ : ∃ f : Nat, f + 1 = F := ⟨F - 1, by omega⟩
            have hfn : f < ps.length := by omega
            have hfe : (F : Int) + -1 = (f : Int) := by omega
            have hf0 : (0 : Int) ≤ (f : Int) := by omega
            have hf1 : (f : Int) < (ps.length : Int) := by omega
            have HNew : Hid (foldS msT msL (ps.drop i) = some (msT d :: List.drop 0 st)) := by
              show _ = _
              rw [HDr.out, foldS_text HF.out ⟨HSN.out, by simp⟩ rfl]
              simp
            have hm1 := msT_size d
            have hm2 : (msT d).2 ≤ ps.length - i := by simp [msT]
            have hFF := hF.out
            go_wp2_with fail
            refine (measureText_any d _ HPz.out).mono ?_
            rintro e w2 ⟨rfl, hb2⟩
            have HB2 : Hid (Below R W0 w2) := (HB1.out.alloc (by have := HPl.out; have := HRl.out; omega) _).trans (hb2.mono (by have := HPl.out; have := HRl.out; simp; omega))
            have HR2 : Hid (RdM w2 R ps.length st) := (HR1.out.keep (Below.heap_alloc _ _ _ HR1.out.lt)).keep (hb2.block _ (by have := HR1.out.lt; simp; omega))
            have HP2 := HP1.out.keep ((hb2.block _ (by have := HPl.out; simp; omega)).trans (Below.heap_alloc w1 _ _ HPl.out))
            have HQ2 : Z2 w2 w1.heap.size := (show Z2 (w1.alloc (.cells #[.int .i64 0, .int .i64 0] 84)) w1.heap.size from heap_alloc_new w1 _).keep (hb2.block _ (by simp))
            obtain ⟨k0, k1, k2, k3⟩ := HQ2.get
            obtain ⟨_, v1, _⟩ := HP2.get
            simp only at v1
            obtain ⟨⟨u0, hu0⟩, hv0⟩ := HR2.out.cell (f * 2) (by omega)
            obtain ⟨⟨u1, hu1⟩, hv1⟩ := HR2.out.cell (f * 2 + 1) (by omega)
            have hQr : R ≤ w1.heap.size := by have := HPl.out; have := HRl.out; omega
            clear hb2 HP2 HQ2 r0 r1 g0 g1 z0 z1 q0 q1 q2 qb0 qb1 qb2
            generalize msT d = m at *
            obtain ⟨x, y⟩ := m
            simp only at hm1 hm2
            unfold msV
            go_wp2
            go_roundw
            case rel => exact ⟨i, (x, y) :: List.drop 0 st, by omega, rfl, HNew.out, by congr 1; simp; omega, HR2.out.step hQ2 _ _ 0 f (by simp <;> omega) (by simp <;> omega) (x, y), (((HB2.out.setCell hQr _).setCell hQr _).setCell (Nat.le_refl _) _).setCell (Nat.le_refl _) _, mem_push HBD.out hm1 hm2, by simp; omega⟩
            case measure => simp [intOf] <;> omega
          | true =>
            by_cases hst : st = []
            · subst hst
              obtain rfl : C = 0 := by simpa using hCs
              obtain rfl : F = ps.length := by have := hF.out; simp at this; omega
              obtain ⟨f, hf⟩ : ∃ f : Nat, f + 1 = ps.length := ⟨ps.length - 1, by omega⟩
              have hfe : (ps.length : Int) + -1 = (f : Int) := by omega
              have hf0 : (0 : Int) ≤ (f : Int) := by omega
              have hf1 : (f : Int) < (ps.length : Int) := by omega
              have HNew : Hid (foldS msT msL (ps.drop i) = some (msL ([] : List (Nat × Nat)) :: List.drop 0 ([] : List (Nat × Nat)))) := by
                show _ = _
                rw [HDr.out, foldS_list HF.out ⟨HSN.out, by simp⟩ rfl]
                simp
              have hm1 := msL_size ([] : List (Nat × Nat))
              have hm2 : (msL ([] : List (Nat × Nat))).2 ≤ ps.length - i := by simp [msL, maxM]; omega
              go_wp2_with fail
              refine (measureList_any R 0 0 [] _ (fun j hj => by simp at hj) (by simp) (by simp) (by simp)).mono ?_
              rintro e w2 ⟨rfl, hb2⟩
              have HB2 : Hid (Below R W0 w2) := (HB1.out.alloc (by have := HPl.out; have := HRl.out; omega) _).trans (hb2.mono (by have := HPl.out; have := HRl.out; simp; omega))
              have HR2 : Hid (RdM w2 R ps.length ([] : List (Nat × Nat))) := (HR1.out.keep (Below.heap_alloc _ _ _ HR1.out.lt)).keep (hb2.block _ (by have := HR1.out.lt; simp; omega))
              have HP2 := HP1.out.keep ((hb2.block _ (by have := HPl.out; simp; omega)).trans (Below.heap_alloc w1 _ _ HPl.out))
              have HQ2 : Z2 w2 w1.heap.size := (show Z2 (w1.alloc (.cells #[.int .i64 0, .int .i64 0] 84)) w1.heap.size from heap_alloc_new w1 _).keep (hb2.block _ (by simp))
              obtain ⟨k0, k1, k2, k3⟩ := HQ2.get
              obtain ⟨_, v1, _⟩ := HP2.get
              simp only at v1
              obtain ⟨⟨u0, hu0⟩, hv0⟩ := HR2.out.cell (f * 2) (by omega)
              obtain ⟨⟨u1, hu1⟩, hv1⟩ := HR2.out.cell (f * 2 + 1) (by omega)
              have hQr : R ≤ w1.heap.size := by have := HPl.out; have := HRl.out; omega
              clear hb2 HP2 HQ2 r0 r1 g0 g1 z0 z1 q0 q1 q2 qb0 qb1 qb2
              generalize msL ([] : List (Nat × Nat)) = m at *
              obtain ⟨x, y⟩ := m
              simp only at hm1 hm2
              unfold msV
              go_wp2
              go_roundw
              case rel => exact ⟨i, (x, y) :: List.drop 0 ([] : List (Nat × Nat)), by omega, rfl, HNew.out, by congr 1; simp; omega, HR2.out.step hQ2 _ _ 0 f (by simp <;> omega) (by simp <;> omega) (x, y), (((HB2.out.setCell hQr _).setCell hQr _).setCell (Nat.le_refl _) _).setCell (Nat.le_refl _) _, mem_push HBD.out hm1 hm2, by simp; omega⟩
              case measure => simp [intOf] <;> omega
            · have hst0 : 0 < st.length := List.length_pos_iff.2 hst
              have hne : ¬ ps.length = F := by have := hF.out; omega
              obtain ⟨f, hf⟩ : ∃ f : Nat, f + 1 = F + C := ⟨F + C - 1, by omega⟩
              have hfe : (F : Int) + ((C : Int) - 1) = (f : Int) := by omega
              have hf0 : (0 : Int) ≤ (f : Int) := by omega
              have hf1 : (f : Int) < (ps.length : Int) := by omega
              have hFF := hF.out
              have HNew : Hid (foldS msT msL (ps.drop i) = some (msL (List.take C st) :: List.drop C st)) := by
                show _ = _
                rw [HDr.out, foldS_list HF.out ⟨HSN.out, by simpa using hc⟩ rfl]
                simp
              have hm1 := msL_size (List.take C st)
              have hm2 : (msL (List.take C st)).2 ≤ ps.length - i := by
                have := maxM_le (List.take C st) (ps.length - (i + 1)) (fun m hm => (HBD.out m (List.mem_of_mem_take hm)).2)
                simp only [msL]; omega
              have htl : (List.take C st).length = C := by rw [List.length_take]; omega
              have HML := measureList_any R (F * 2) (ps.length - F) (List.take C st) (w1.alloc (.cells #[.int .i64 0, .int .i64 0] 84)) (by
                have h1 := (HR1.out.keep (Below.heap_alloc w1 (.cells #[.int .i64 0, .int .i64 0] 84) _ HR1.out.lt)).at'
                rw [hF.out] at h1
                exact h1.take C) (by omega) (fun m hm => (HBD.out m (List.mem_of_mem_take hm)).1) (fun m hm => by have := (HBD.out m (List.mem_of_mem_take hm)).2; omega)
              rw [htl] at HML
              have HML2 := hide HML
              clear HML htl
              go_wp2_with fail
              refine HML2.out.mono ?_
              rintro e w2 ⟨rfl, hb2⟩
              clear HML2
              have HB2 : Hid (Below R W0 w2) := (HB1.out.alloc (by have := HPl.out; have := HRl.out; omega) _).trans (hb2.mono (by have := HPl.out; have := HRl.out; simp; omega))
              have HR2 : Hid (RdM w2 R ps.length st) := (HR1.out.keep (Below.heap_alloc _ _ _ HR1.out.lt)).keep (hb2.block _ (by have := HR1.out.lt; simp; omega))
              have HP2 := HP1.out.keep ((hb2.block _ (by have := HPl.out; simp; omega)).trans (Below.heap_alloc w1 _ _ HPl.out))
              have HQ2 : Z2 w2 w1.heap.size := (show Z2 (w1.alloc (.cells #[.int .i64 0, .int .i64 0] 84)) w1.heap.size from heap_alloc_new w1 _).keep (hb2.block _ (by simp))
              obtain ⟨k0, k1, k2, k3⟩ := HQ2.get
              obtain ⟨_, v1, _⟩ := HP2.get
              simp only at v1
              obtain ⟨⟨u0, hu0⟩, hv0⟩ := HR2.out.cell (f * 2) (by omega)
              obtain ⟨⟨u1, hu1⟩, hv1⟩ := HR2.out.cell (f * 2 + 1) (by omega)
              have hQr : R ≤ w1.heap.size := by have := HPl.out; have := HRl.out; omega
              clear hb2 HP2 HQ2 r0 r1 g0 g1 z0 z1 q0 q1 q2 qb0 qb1 qb2
              generalize msL (List.take C st) = m at *
              obtain ⟨x, y⟩ := m
              simp only at hm1 hm2
              unfold msV
              go_wp2
              go_roundw
              case rel => exact ⟨i, (x, y) :: List.drop C st, by omega, rfl, HNew.out, by congr 1; simp; omega, HR2.out.step hQ2 _ _ C f (by omega) (by omega) (x, y), (((HB2.out.setCell hQr _).setCell hQr _).setCell (Nat.le_refl _) _).setCell (Nat.le_refl _) _, mem_push HBD.out hm1 hm2, by simp; omega⟩
              case measure => simp [intOf] <;> omega
end Go.Proofs.Ytoafiieciiijbaa
