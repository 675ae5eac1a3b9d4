/-
  OUR OWN: codes: the program's sound, measureText, measureList.
-/
import Derived.Test.YtoafiieciiijbaaEncC
namespace Go.Proofs.Ytoafiieciiijbaa
open Go.RowKit
attribute [local go_sem ↓] Go.wp_at_zero Go.wp_at_succ

/-- a part that came in: list, count, data -/
abbrev IPrt := Bool × Int × ByteArray
def sndP (p : IPrt) : Bool := if p.1 then decide (0 ≤ p.2.1) && decide (p.2.2.size = 0) else decide (p.2.1 = 0)
theorem isEmpty_of {s : ByteArray} (h : 0 < s.size) : s.toList.isEmpty = false := by
  rw [Lib.toList_data]
  cases hl : s.data.toList with
  | nil => have := Lib.size_eq s; rw [hl, List.length_nil] at this; omega
  | cons a r => rfl

set_option maxHeartbeats 1000000 in
set_option maxRecDepth 20000 in
theorem sound_any (p : IPrt) (w : World) :
    Calls Try.prog 54 #[.agg #[.bool p.1, .int .i64 p.2.1, .string p.2.2]] w fun e w' => e = .returned (.bool (sndP p)) ∧ Below w.heap.size w w' := by
  obtain ⟨l, c, d⟩ := p
  cases l with
  | true =>
    by_cases h1 : 0 ≤ c
    · by_cases h2 : d.size = 0
      · obtain rfl := empty_of_size h2
        have HE : Hid (sndP (true, c, ⟨#[]⟩) = true) := by show _ = _; simp [sndP, h1, ByteArray.size]
        go_enter Try.func54, Try.ntmps54
        go_wp2
        go_ret
        exact ⟨by rw [HE.out]; rfl, below_alloc _ _⟩
      · have HE : Hid (sndP (true, c, d) = false) := by show _ = _; simp [sndP, h2]
        have h3 := isEmpty_of (s := d) (by omega)
        go_enter Try.func54, Try.ntmps54
        go_wp2
        go_ret
        exact ⟨by rw [HE.out]; rfl, below_alloc _ _⟩
    · have HE : Hid (sndP (true, c, d) = false) := by show _ = _; simp [sndP, h1]
      go_enter Try.func54, Try.ntmps54
      go_wp2
      go_ret
      exact ⟨by rw [HE.out]; rfl, below_alloc _ _⟩
  | false =>
    by_cases h1 : c = 0
    · subst h1
      have HE : Hid (sndP (false, 0, d) = true) := by show _ = _; simp [sndP]
      go_enter Try.func54, Try.ntmps54
      go_wp2
      go_ret
      exact ⟨by rw [HE.out]; rfl, below_alloc _ _⟩
    · have HE : Hid (sndP (false, c, d) = false) := by show _ = _; simp [sndP, h1]
      have h2 : (c == 0) = false := by simpa using h1
      go_enter Try.func54, Try.ntmps54
      go_wp2
      go_ret
      exact ⟨by rw [HE.out]; simp, below_alloc _ _⟩

/-- the measure of bytes, of a list: size and depth -/
def msT (s : ByteArray) : Nat × Nat := (if ownC s then 1 else codeSz s.size, 0)
def sumM (ms : List (Nat × Nat)) : Nat := (ms.map (·.1)).sum
def maxM (ms : List (Nat × Nat)) : Nat := (ms.map (·.2)).foldl max 0
def msL (ms : List (Nat × Nat)) : Nat × Nat := (codeSz (sumM ms), maxM ms + 1)
def msV (m : Nat × Nat) : Value := .agg #[.int .i64 (m.1 : Int), .int .i64 (m.2 : Int)]

set_option maxHeartbeats 1000000 in
set_option maxRecDepth 20000 in
theorem measureText_any (s : ByteArray) (w : World) (hs : s.size ≤ 281474976710656) :
    Calls Try.prog 42 #[.string s] w fun e w' => e = .returned (msV (msT s)) ∧ Below w.heap.size w w' := by
  have HO : Hid (∀ W, Calls Try.prog 55 #[.string s] W fun e w' => e = .returned (.bool (ownC s)) ∧ w' = W) := fun W => isOwnCode_any s W hs
  have HC : Hid (∀ W, Calls Try.prog 56 #[.int .i64 (s.size : Int)] W fun e w' => e = .returned (.int .i64 (codeSz s.size : Int)) ∧ Below W.heap.size W w') := fun W => codeSize_any s.size W (by omega)
  clear hs
  cases ho : ownC s with
  | true =>
    have HE : Hid (msT s = (1, 0)) := by show _ = _; simp [msT, ho]
    rw [ho] at HO
    clear ho HC
    rw [HE.out]
    go_enter Try.func42, Try.ntmps42
    go_wp2_with fail
    refine (HO.out _).mono ?_
    rintro e w1 ⟨rfl, rfl⟩
    go_wp2
    refine bodyPost_ret (v := msV (1, 0)) (by simp [results, Try.results42, go_sem, msV]) rfl ⟨rfl, ?_⟩
    exact below_alloc _ _
  | false =>
    have HE : Hid (msT s = (codeSz s.size, 0)) := by show _ = _; simp [msT, ho]
    rw [ho] at HO
    clear ho
    rw [HE.out]
    generalize codeSz s.size = Z at *
    go_enter Try.func42, Try.ntmps42
    go_wp2_with fail
    refine (HO.out _).mono ?_
    rintro e w1 ⟨rfl, rfl⟩
    go_wp2_with fail
    refine (HC.out _).mono ?_
    rintro e w2 ⟨rfl, hb⟩
    have hx : w2.heap[w.heap.size]? = some (.cells #[.int .i64 0, .int .i64 0] 84 (0, 0)) := by rw [hb.block _ (by simp)]; exact heap_alloc_new w _
    have hx0 : w2.cell? ⟨w.heap.size, 0, none⟩ = some (.int .i64 0) := cell_of_row w2 _ 0 _ _ (0, 0) hx
    have hx1 : w2.cell? ⟨w.heap.size, 1, none⟩ = some (.int .i64 0) := cell_of_row w2 _ 1 _ _ (0, 0) hx
    have hf0 := frozen_of_row w2 w.heap.size 0 _ _ hx
    have hf1 := frozen_of_row w2 w.heap.size 1 _ _ hx
    have HB2 : Hid (Below w.heap.size w w2) := (below_alloc _ _).trans (hb.mono (by simp))
    clear hb hx
    go_wp2
    refine bodyPost_ret (v := msV (Z, 0)) (by simp [results, Try.results42, go_sem, msV, hx0, hx1]) rfl ⟨rfl, ?_⟩
    exact (HB2.out.setCell (Nat.le_refl _) _).setCell (Nat.le_refl _) _

/-- measures in memory -/
def MsAt (w : World) (bk o : Nat) (ms : List (Nat × Nat)) : Prop := ∀ j, j < ms.length → w.cell? ⟨bk, o + j * 2, none⟩ = some (.int .i64 ((ms.getD j (0, 0)).1 : Int)) ∧ w.cell? ⟨bk, o + j * 2 + 1, none⟩ = some (.int .i64 ((ms.getD j (0, 0)).2 : Int))
theorem MsAt.keep {w w' : World} {bk o : Nat} {ms : List (Nat × Nat)} (h : MsAt w bk o ms) (hb : Below w.heap.size w w') : MsAt w' bk o ms := fun j hj => by
  obtain ⟨a, b⟩ := h j hj
  exact ⟨by rw [hb.cell (p := ⟨bk, o + j * 2, none⟩) (World.block_lt_of_cell? w _ a)]; exact a, by rw [hb.cell (p := ⟨bk, o + j * 2 + 1, none⟩) (World.block_lt_of_cell? w _ b)]; exact b⟩
theorem sumM_snoc (ms : List (Nat × Nat)) (k : Nat) (h : k < ms.length) : sumM (ms.take (k + 1)) = sumM (ms.take k) + (ms.getD k (0, 0)).1 := by
  have e : ms.getD k (0, 0) = ms[k] := by simp [List.getD_eq_getElem?_getD, h]
  rw [e, List.take_succ_eq_append_getElem h]
  unfold sumM
  rw [List.map_append, List.sum_append]
  rfl
theorem maxM_snoc (ms : List (Nat × Nat)) (k : Nat) (h : k < ms.length) : maxM (ms.take (k + 1)) = max (maxM (ms.take k)) (ms.getD k (0, 0)).2 := by
  have e : ms.getD k (0, 0) = ms[k] := by simp [List.getD_eq_getElem?_getD, h]
  rw [e, List.take_succ_eq_append_getElem h]
  unfold maxM
  rw [List.map_append, List.foldl_append]
  rfl
theorem sumM_le (ms : List (Nat × Nat)) (h : ∀ m ∈ ms, m.1 ≤ 6001) : sumM ms ≤ 6001 * ms.length := by
  induction ms with
  | nil => simp [sumM]
  | cons m r ih =>
    have h1 := h m (by simp)
    have h2 := ih (fun x hx => h x (by simp [hx]))
    simp only [sumM, List.map_cons, List.sum_cons, List.length_cons] at h2 ⊢
    omega
theorem foldl_max_le (l : List Nat) : ∀ a b, a ≤ b → (∀ x ∈ l, x ≤ b) → l.foldl max a ≤ b := by
  induction l with
  | nil => intro a b h _; exact h
  | cons x r ih => intro a b h hx; exact ih _ _ (by have := hx x (by simp); omega) (fun y hy => hx y (by simp [hy]))
theorem maxM_le (ms : List (Nat × Nat)) (b : Nat) (h : ∀ m ∈ ms, m.2 ≤ b) : maxM ms ≤ b := by
  refine foldl_max_le _ _ _ (Nat.zero_le _) (fun x hx => ?_)
  obtain ⟨m, hm, rfl⟩ := List.mem_map.1 hx
  exact h m hm

set_option maxHeartbeats 1000000 in
set_option maxRecDepth 20000 in
theorem measureList_any (bk o c : Nat) (ms : List (Nat × Nat)) (w : World) (hms : MsAt w bk o ms) (hN : ms.length ≤ 400) (hsz : ∀ m ∈ ms, m.1 ≤ 6001) (hd : ∀ m ∈ ms, m.2 ≤ 1000) :
    Calls Try.prog 43 #[.slice (some ⟨bk, o, none⟩) ms.length c] w fun e w' => e = .returned (msV (msL ms)) ∧ Below w.heap.size w w' := by
  have HM := hide hms
  have hx0 : (w.alloc (.cells #[.int .i64 0, .int .i64 0] 84)).heap[w.heap.size]? = some (.cells #[.int .i64 0, .int .i64 0] 84 (0, 0)) := heap_alloc_new w _
  have HX := hide hx0
  have HS : Hid (∀ k, sumM (ms.take k) ≤ 2400400) := fun k => by
    have h1 := sumM_le (ms.take k) (fun m hm => hsz m (List.mem_of_mem_take hm))
    have : (ms.take k).length ≤ ms.length := by rw [List.length_take]; omega
    omega
  have HD : Hid (∀ k, maxM (ms.take k) ≤ 1000) := fun k => maxM_le _ _ (fun m hm => hd m (List.mem_of_mem_take hm))
  have HW : Hid (Below w.heap.size w (w.alloc (.cells #[.int .i64 0, .int .i64 0] 84))) := below_alloc _ _
  have HLL : Hid (sumM (ms.take ms.length) = sumM ms ∧ maxM (ms.take ms.length) = maxM ms) := by show _ ∧ _; rw [List.take_length]; exact ⟨rfl, rfl⟩
  have HSn : Hid (∀ k, k < ms.length → sumM (ms.take (k + 1)) = sumM (ms.take k) + (ms.getD k (0, 0)).1 ∧ maxM (ms.take (k + 1)) = max (maxM (ms.take k)) (ms.getD k (0, 0)).2) := fun k hk => ⟨sumM_snoc ms k hk, maxM_snoc ms k hk⟩
  have HB1 : Hid (∀ k, k < ms.length → (ms.getD k (0, 0)).1 ≤ 6001 ∧ (ms.getD k (0, 0)).2 ≤ 1000) := fun k hk => by
    have e : ms.getD k (0, 0) = ms[k] := by simp [List.getD_eq_getElem?_getD, hk]
    rw [e]; exact ⟨hsz _ (List.getElem_mem hk), hd _ (List.getElem_mem hk)⟩
  clear hms hx0 hsz hd
  go_enter Try.func43, Try.ntmps43
  go_wp2
  generalize World.alloc w _ = W0 at *
  go_loopw [3, 4, 9] (fun sv dv i wr => ∃ k : Nat, k ≤ ms.length ∧ i = .int .i64 (k : Int) ∧ sv = .int .i64 (sumM (ms.take k) : Int) ∧ dv = .int .i64 (maxM (ms.take k) : Int) ∧ Below W0.heap.size W0 wr) (fun _ _ i _ => ms.length - (intOf i).toNat)
  case atStart => exact ⟨0, Nat.zero_le _, rfl, rfl, rfl, Below.refl _ _⟩
  case round =>
    obtain ⟨k, hk, rfl, rfl, rfl, hbw⟩ := hrel
    have q1 := HS.out k
    have q2 := HD.out k
    by_cases hlt : k < ms.length
    · obtain ⟨m0, m1⟩ := (HM.out.keep HW.out).keep hbw k hlt
      obtain ⟨s1, s2⟩ := HSn.out k hlt
      obtain ⟨b1, b2⟩ := HB1.out k hlt
      have HN2 := hide (And.intro s1 s2)
      have HBW := hide hbw
      clear s1 s2 hbw
      generalize ms.getD k (0, 0) = P at *
      obtain ⟨p, q⟩ := P
      simp only at m0 m1 b1 b2 HN2
      generalize sumM (ms.take k) = S at *
      generalize maxM (ms.take k) = D at *
      by_cases hdq : D ≤ q
      · have e1 : max D q = q := Nat.max_eq_right hdq
        rw [e1] at HN2
        have d1 : (D : Int) ≤ (q : Int) := by omega
        go_wp2
        all_goals
          go_roundw
          case rel => exact ⟨k + 1, by omega, by go_num, by rw [HN2.out.1]; go_num, by rw [HN2.out.2]; congr 1; omega, HBW.out.alloc HBW.out.size _⟩
          case measure => simp [intOf]; omega
      · have e1 : max D q = D := Nat.max_eq_left (by omega)
        rw [e1] at HN2
        have d1 : (q : Int) < (D : Int) := by omega
        go_wp2
        all_goals
          go_roundw
          case rel => exact ⟨k + 1, by omega, by go_num, by rw [HN2.out.1]; go_num, by rw [HN2.out.2]; congr 1; omega, HBW.out.alloc HBW.out.size _⟩
          case measure => simp [intOf]; omega
    · have hke : k = ms.length := by omega
      subst hke
      rw [HLL.out.1, HLL.out.2]
      rw [HLL.out.1] at q1
      rw [HLL.out.2] at q2
      have HC : Hid (∀ W, Calls Try.prog 56 #[.int .i64 (sumM ms : Int)] W fun e w' => e = .returned (.int .i64 (codeSz (sumM ms) : Int)) ∧ Below W.heap.size W w') := fun W => codeSize_any (sumM ms) W (by omega)
      have HE : Hid (msL ms = (codeSz (sumM ms), maxM ms + 1)) := rfl
      generalize codeSz (sumM ms) = Z at *
      generalize sumM ms = S at *
      generalize maxM ms = D at *
      have HBW := hide hbw
      clear hbw
      go_wp2_with fail
      refine (HC.out _).mono ?_
      rintro e w2 ⟨rfl, hb⟩
      have HB3 : Hid (Below W0.heap.size W0 w2) := HBW.out.trans (hb.mono HBW.out.size)
      have hx : w2.heap[w.heap.size]? = some (.cells #[.int .i64 0, .int .i64 0] 84 (0, 0)) := by rw [HB3.out.block _ (Array.getElem?_eq_some_iff.1 HX.out).1]; exact HX.out
      have hx0 : w2.cell? ⟨w.heap.size, 0, none⟩ = some (.int .i64 0) := cell_of_row w2 _ 0 _ _ (0, 0) hx
      have hx1 : w2.cell? ⟨w.heap.size, 1, none⟩ = some (.int .i64 0) := cell_of_row w2 _ 1 _ _ (0, 0) hx
      have hf0 := frozen_of_row w2 w.heap.size 0 _ _ hx
      have hf1 := frozen_of_row w2 w.heap.size 1 _ _ hx
      clear hb hx
      go_wp2
      refine bodyPost_ret (v := msV (Z, D + 1)) (by simp [results, Try.results43, go_sem, msV, hx0, hx1]) rfl ⟨by rw [HE.out], ?_⟩
      exact ((HW.out.trans (HB3.out.mono HW.out.size)).setCell (Nat.le_refl _) _).setCell (Nat.le_refl _) _
end Go.Proofs.Ytoafiieciiijbaa
