/-
  OUR OWN: codes: the reference's built.
-/
import Derived.Test.YtoafiieciiijbaaEncK
namespace Go.Proofs.Ytoafiieciiijbaa
open Go.RowKit
attribute [local go_sem ↓] Go.wp_at_zero Go.wp_at_succ

/-- what a call of built answers -/
def BuPost (r : Nat) (ps : List IPrt) (a : Nat) (w : World) (e : Ending) (w' : World) : Prop :=
  (∃ qs tl c0 c1 c2, ps.drop a = qs.map toI ++ tl ∧ e = .returned (.tuple #[.agg #[c0, c1, c2], .int .i64 ((a + qs.length : Nat) : Int), .bool true]) ∧ ItIs r w' (fun k => w.heap.size ≤ k) [c0, c1, c2] qs ∧ Below w.heap.size w w') ∨
  (∃ x, e = .returned (.tuple #[it0, .int .i64 x, .bool false]) ∧ NoIt (ps.drop a) ∧ Below w.heap.size w w')

/-- the answer's block, not written yet -/
def Z3 (w : World) (B : Nat) : Prop := w.heap[B]? = some (.cells #[.bool false, .string ⟨#[]⟩, .slice none 0 0] 66 (0, 0))
theorem Z3.get {w : World} {B : Nat} (h : Z3 w B) : w.cell? ⟨B, 0, none⟩ = some (.bool false) ∧ w.cell? ⟨B, 1, none⟩ = some (.string ⟨#[]⟩) ∧ w.cell? ⟨B, 2, none⟩ = some (.slice none 0 0) ∧ ∀ j, w.frozen? ⟨B, j, none⟩ = false :=
  ⟨cell_of_row w B 0 _ _ (0, 0) h, cell_of_row w B 1 _ _ (0, 0) h, cell_of_row w B 2 _ _ (0, 0) h, fun j => frozen_of_row w B j _ _ h⟩

set_option maxHeartbeats 1000000 in
set_option maxRecDepth 20000 in
theorem built_end (r : Nat) (ao : Option Addr) (cap : Nat) (ps : List IPrt) (w : World) (hn : ps.length ≤ 400) :
    Calls Try.prog 27 #[.slice ao ps.length cap, .int .i64 (ps.length : Int)] w fun e w' => BuPost r ps ps.length w e w' := by
  have nI : (ps.length : Int) ≤ 400 := by omega
  go_enter Try.func27, Try.ntmps27
  go_wp2
  refine bodyPost_ret (v := .tuple #[it0, .int .i64 (ps.length : Int), .bool false]) (by simp [results, Try.results27, go_sem, it0]) rfl (.inr ⟨_, rfl, ?_, ?_⟩)
  · rw [List.drop_length]; exact NoIt.nil
  · exact below_alloc _ _

set_option maxHeartbeats 2000000 in
set_option maxRecDepth 20000 in
theorem built_bad (r : Nat) (ao : Option Addr) (cap : Nat) (ps : List IPrt) (a : Nat) (w : World) (hn : ps.length ≤ 400) (ha : a < ps.length) (hp : IPrts w ao ps) (hs : sndP (ps.getD a (false, 0, ⟨#[]⟩)) = false) :
    Calls Try.prog 27 #[.slice ao ps.length cap, .int .i64 (a : Int)] w fun e w' => BuPost r ps a w e w' := by
  have nI : (ps.length : Int) ≤ 400 := by omega
  have aI : (a : Int) < (ps.length : Int) := by omega
  have a0 : (0 : Int) ≤ (a : Int) := by omega
  have HD : Hid (ps.drop a = ps.getD a (false, 0, ⟨#[]⟩) :: ps.drop (a + 1)) := by
    show _ = _
    have e : ps.getD a (false, 0, ⟨#[]⟩) = ps[a] := by simp [List.getD_eq_getElem?_getD, ha]
    rw [e]; exact drop_step ps a ha
  have HNo : Hid (NoIt (ps.drop a)) := by show NoIt _; rw [HD.out]; exact NoIt.bad hs
  obtain ⟨b, off, rfl, p0, p1, p2⟩ := hp.keep (below_alloc w (.cells #[.bool false, .string ⟨#[]⟩, .slice none 0 0] 66)) (Nat.le_refl _) a ha
  have hz := heap_alloc_new w (.cells #[.bool false, .string ⟨#[]⟩, .slice none 0 0] 66)
  generalize ps.getD a (false, 0, ⟨#[]⟩) = p at *
  obtain ⟨l, c, d⟩ := p
  simp only at p0 p1 p2
  clear hp ha
  have fin : ∀ w', Below w.heap.size w w' → BuPost r ps a w (.returned (.tuple #[it0, .int .i64 (a : Int), .bool false])) w' := fun w' h => .inr ⟨_, rfl, HNo.out, h⟩
  have HFn := hide fin
  clear fin
  by_cases h1 : c < 0
  · clear hs
    go_enter Try.func27, Try.ntmps27
    go_wp2
    refine bodyPost_ret (v := .tuple #[it0, .int .i64 (a : Int), .bool false]) (by simp [results, Try.results27, go_sem, it0]) rfl (HFn.out _ ?_)
    exact below_alloc2 _ _ _
  · cases l with
    | true =>
      have h2 : 0 < d.size := by
        rcases Nat.eq_zero_or_pos d.size with h | h
        · exfalso; simp [sndP, h] at hs; omega
        · exact h
      have h3 := isEmpty_of h2
      have h4 : 0 ≤ c := by omega
      clear hs h1 h2
      go_enter Try.func27, Try.ntmps27
      go_wp2
      refine bodyPost_ret (v := .tuple #[it0, .int .i64 (a : Int), .bool false]) (by simp [results, Try.results27, go_sem, it0]) rfl (HFn.out _ ?_)
      exact below_alloc2 _ _ _
    | false =>
      have h4 : 0 < c := by simp [sndP] at hs; omega
      clear hs h1
      go_enter Try.func27, Try.ntmps27
      go_wp2
      refine bodyPost_ret (v := .tuple #[it0, .int .i64 (a : Int), .bool false]) (by simp [results, Try.results27, go_sem, it0]) rfl (HFn.out _ ?_)
      exact below_alloc2 _ _ _

set_option maxHeartbeats 2000000 in
set_option maxRecDepth 20000 in
theorem built_text (r : Nat) (ao : Option Addr) (cap : Nat) (ps : List IPrt) (a : Nat) (d : ByteArray) (w : World) (hn : ps.length ≤ 400) (ha : a < ps.length) (hp : IPrts w ao ps) (hs : ps.getD a (false, 0, ⟨#[]⟩) = (false, 0, d)) :
    Calls Try.prog 27 #[.slice ao ps.length cap, .int .i64 (a : Int)] w fun e w' => BuPost r ps a w e w' := by
  have nI : (ps.length : Int) ≤ 400 := by omega
  have aI : (a : Int) < (ps.length : Int) := by omega
  have a0 : (0 : Int) ≤ (a : Int) := by omega
  have HD : Hid (ps.drop a = [(false, 0, d)].map toI ++ ps.drop (a + 1)) := by
    show _ = _
    have e : ps.getD a (false, 0, ⟨#[]⟩) = ps[a] := by simp [List.getD_eq_getElem?_getD, ha]
    rw [drop_step ps a ha, ← e, hs]; rfl
  obtain ⟨b, off, rfl, p0, p1, p2⟩ := hp.keep (below_alloc w (.cells #[.bool false, .string ⟨#[]⟩, .slice none 0 0] 66)) (Nat.le_refl _) a ha
  rw [hs] at p0 p1 p2
  simp only at p0 p1 p2
  have HIt : Hid (∀ w' : World, ItIs r w' (fun k => w.heap.size ≤ k) [.bool false, .string d, .slice none 0 0] [(false, 0, d)]) := fun w' => ItIs.text r w' _ d
  clear hp hs ha
  go_enter Try.func27, Try.ntmps27
  go_wp2
  refine wp_loop_rounds 1 ?_
  rw [rounds_succ]
  go_wp2
  refine bodyPost_ret (v := .tuple #[.agg #[.bool false, .string d, .slice none 0 0], .int .i64 ((a : Int) + 1), .bool true]) (by simp [results, Try.results27, go_sem]) rfl (.inl ⟨[(false, 0, d)], ps.drop (a + 1), _, _, _, HD.out, by congr 4, HIt.out _, ?_⟩)
  exact (below_alloc2 _ _ _).alloc (by simp; omega) _

set_option maxHeartbeats 4000000 in
set_option maxRecDepth 20000 in
theorem built_list (r : Nat) (ao : Option Addr) (cap : Nat) (ps : List IPrt) (a : Nat) (c : Int) (w : World) (hn : ps.length ≤ 400) (ha : a < ps.length) (hp : IPrts w ao ps) (hs : ps.getD a (false, 0, ⟨#[]⟩) = (true, c, ⟨#[]⟩)) (hc : 0 ≤ c)
    (ih : ∀ (a' : Nat) (W : World), a < a' → a' ≤ ps.length → IPrts W ao ps → Calls Try.prog 27 #[.slice ao ps.length cap, .int .i64 (a' : Int)] W fun e w' => BuPost r ps a' W e w') :
    Calls Try.prog 27 #[.slice ao ps.length cap, .int .i64 (a : Int)] w fun e w' => BuPost (r + 1) ps a w e w' := by
  obtain ⟨i0, hi, hz0, hz1, hz2⟩ := info_parts infoIt
  have nI : (ps.length : Int) ≤ 400 := by omega
  have aI : (a : Int) < (ps.length : Int) := by omega
  have a0 : (0 : Int) ≤ (a : Int) := by omega
  have HN := hide (And.intro hn ha)
  have HD : Hid (ps.drop a = (true, c, ⟨#[]⟩) :: ps.drop (a + 1)) := by
    show _ = _
    have e : ps.getD a (false, 0, ⟨#[]⟩) = ps[a] := by simp [List.getD_eq_getElem?_getD, ha]
    rw [drop_step ps a ha, ← e, hs]
  have HP := hide hp
  obtain ⟨b, off, rfl, p0, p1, p2⟩ := hp.keep (below_alloc w (.cells #[.bool false, .string ⟨#[]⟩, .slice none 0 0] 66)) (Nat.le_refl _) a ha
  rw [hs] at p0 p1 p2
  simp only at p0 p1 p2
  have HIH := hide ih
  clear hp hs ih ha hn
  go_enter Try.func27, Try.ntmps27
  go_wp2_with fail
  obtain ⟨W0, hW0⟩ : ∃ W0, W0 = ((w.alloc (.cells #[.bool false, .string ⟨#[]⟩, .slice none 0 0] 66)).alloc (.cells #[.bool true, .int .i64 c, .string ⟨#[]⟩] 24)).alloc (.cells #[.bool true, .string ⟨#[]⟩, .slice none 0 0] 66) := ⟨_, rfl⟩
  have HZ0 : Hid (Z3 W0 w.heap.size) := by
    show Z3 _ _
    rw [hW0]; unfold Z3
    rw [Below.heap_alloc _ _ _ (by simp; omega), Below.heap_alloc _ _ _ (by simp)]
    exact heap_alloc_new w _
  have HP0 : Hid (P3 W0 (w.heap.size + 1) (true, c, ⟨#[]⟩)) := by
    show P3 _ _ _
    rw [hW0]; unfold P3
    rw [Below.heap_alloc _ _ _ (by simp)]
    have := heap_alloc_new (w.alloc (.cells #[.bool false, .string ⟨#[]⟩, .slice none 0 0] 66)) (.cells #[.bool true, .int .i64 c, .string ⟨#[]⟩] 24)
    simpa using this
  have HL0 : Hid (Ls r w W0 (w.heap.size + 1 + 1) (.slice none 0 0) [] []) := by
    refine ⟨?_, World.ownsRow_nil _ _ _ _, rfl, fun i hi => by simp at hi, ?_, by omega⟩
    · rw [hW0]
      have := heap_alloc_new ((w.alloc (.cells #[.bool false, .string ⟨#[]⟩, .slice none 0 0] 66)).alloc (.cells #[.bool true, .int .i64 c, .string ⟨#[]⟩] 24)) (.cells #[.bool true, .string ⟨#[]⟩, .slice none 0 0] 66)
      simpa using this
    · rw [hW0]; exact (below_alloc2 _ _ _).alloc (by simp; omega) _
  rw [← hW0]
  clear hW0 p0 p1 p2
  obtain ⟨X, hX⟩ : ∃ X, Hid (w.heap.size + 1 + 1 = X) := ⟨w.heap.size + 1 + 1, Eq.refl _⟩
  rw [hX.out] at HL0 ⊢
  have hXw : w.heap.size + 1 < X := by have := hX.out; omega
  go_loopw [1, 9] (fun av iv wr => ∃ (css : List (List Value)) (pss : List (List Prt)) (lk : Value) (a' : Nat), av = .int .i64 (a' : Int) ∧ iv = .int .i64 (css.length : Int) ∧ a + 1 + pss.flatten.length = a' ∧ a' ≤ ps.length ∧ ps.drop (a + 1) = pss.flatten.map toI ++ ps.drop a' ∧ (css.length : Int) ≤ c ∧ css.length + a + 1 ≤ a' ∧ Ls r w wr X lk css pss ∧ Z3 wr w.heap.size ∧ P3 wr (w.heap.size + 1) (true, c, ⟨#[]⟩)) (fun av _ _ => ps.length + 1 - (intOf av).toNat)
  case atStart => exact ⟨[], [], .slice none 0 0, a + 1, by congr 1, rfl, by simp, by have := HN.out; omega, by simp, by simpa using hc, by simp, HL0.out, HZ0.out, HP0.out⟩
  case round =>
    obtain ⟨css, pss, lk, a', rfl, rfl, q1, q2, q3, q4, q5, q6, q7, q8⟩ := hrel
    have HQ := hide (And.intro q1 (And.intro q2 (And.intro q3 (And.intro q4 (And.intro q5 (And.intro q6 (And.intro q7 q8)))))))
    obtain ⟨_, v1, _⟩ := q8.get
    simp only at v1
    have HZ := hide q7
    have HPP := hide q8
    have HLS := hide q6
    have hcl : (css.length : Int) ≤ 400 := by have := HN.out; omega
    have hal : (a' : Int) ≤ 400 := by omega
    have hXl := HLS.out.lt
    clear q1 q3 q4 q5 q6 q7 q8
    by_cases hlt : (css.length : Int) < c
    · have HC := hide (HIH.out a' wr (by have := HQ.out; omega) q2 (HP.out.keep HLS.out.bel (Nat.le_refl _)))
      clear q2
      go_wp2_with fail
      refine HC.out.mono ?_
      rintro e w6 h6
      rcases h6 with ⟨qs, tl, c0, c1, c2, hd6, rfl, hit, hb6⟩ | ⟨x6, rfl, hno, hb6⟩
      · obtain ⟨l0, b0, ao0, lo0, lc0, hsh⟩ := hit.shape
        simp only [List.cons.injEq, and_true] at hsh
        obtain ⟨rfl, rfl, rfl⟩ := hsh
        have hqp := hit.pos
        have hdl : a' + qs.length ≤ ps.length ∧ ps.drop (a' + qs.length) = tl := by
          have e1 := congrArg List.length hd6
          rw [List.length_drop, List.length_append, List.length_map] at e1
          have e2 := congrArg (List.drop qs.length) hd6
          rw [List.drop_drop, List.drop_left' (by simp)] at e2
          have := HQ.out.2.1
          exact ⟨by omega, e2⟩
        have HDL := hide hdl
        have HFl : Hid ((pss ++ [qs]).flatten.length = pss.flatten.length + qs.length) := by show _ = _; rw [List.flatten_append, List.length_append, show [qs].flatten = qs from by simp]
        have HD3 : Hid (ps.drop (a + 1) = (pss ++ [qs]).flatten.map toI ++ ps.drop (a' + qs.length)) := by
          show _ = _
          rw [hdl.2, HQ.out.2.2.1, hd6]
          simp
        have h6 : ∀ o, (w6.alloc o).heap[X]? = some (.cells #[.bool true, .string ⟨#[]⟩, lk] 66 (0, 0)) := fun o => by
          rw [Below.heap_alloc _ _ _ (Nat.lt_of_lt_of_le hXl hb6.size), hb6.block _ hXl]; exact HLS.out.blk
        have x2 : ∀ o, (w6.alloc o).cell? ⟨X, 2, none⟩ = some lk := fun o => cell_of_row _ _ 2 _ _ (0, 0) (h6 o)
        have HB6 := hide hb6
        have HIT := hide hit
        obtain ⟨ao, lc, hlv⟩ : ∃ ao lc, lk = .slice ao css.length lc := by
          rcases HLS.out.own.2 with ⟨rfl, h0⟩ | ⟨g, c, cur, rfl, _⟩
          · exact ⟨none, 0, by rw [h0]⟩
          · exact ⟨_, _, rfl⟩
        subst hlv
        have HOW : Hid (((w6.alloc (.cells #[.bool l0, .string b0, .slice ao0 lo0 lc0] 66)).alloc (.cells #[.bool l0, .string b0, .slice ao0 lo0 lc0] 66)).ownsRow (X + 1) 66 3 (.slice ao css.length lc) css.length css.flatten) := ((own_far HLS.out.own (fun g _ hg => hb6.block g hg)).alloc _).alloc _
        have HNW : Hid (∀ j u, [Value.bool l0, .string b0, .slice ao0 lo0 lc0][j]? = some u → ((w6.alloc (.cells #[.bool l0, .string b0, .slice ao0 lo0 lc0] 66)).alloc (.cells #[.bool l0, .string b0, .slice ao0 lo0 lc0] 66)).cell? ((⟨w6.heap.size + 1, 0, none⟩ : Addr).add j) = some u) := by
          have h := news_ofT (w6.alloc (.cells #[.bool l0, .string b0, .slice ao0 lo0 lc0] 66)) 66 [.bool l0, .string b0, .slice ao0 lo0 lc0]
          rwa [show (w6.alloc (.cells #[.bool l0, .string b0, .slice ao0 lo0 lc0] 66)).heap.size = w6.heap.size + 1 from by simp] at h
        clear h6 hb6 hit hd6 hdl
        go_wp2_with (at_builtin; go_must (refine wpList_append_lies _ rfl (.tmp 72) (.tmp 74) 64 rfl (X + 1) 66 i0 _ 3 48 Try.underlying64 hi hz0 hz1 hz2 rfl (by omega) (.slice ao css.length lc) css.length css.flatten rfl HOW.out (⟨w6.heap.size + 1, 0, none⟩ : Addr) 1 1 [.bool l0, .string b0, .slice ao0 lo0 lc0] (by simp [Act.eval]) (by rfl) HNW.out (by simp [Value.oneCell']) (by omega) (by unfold maxLen; omega) (by omega) (by have := HLS.out.lt; have := HB6.out.size; simp; omega) _ rfl ?_); intro g8 c8 w8 ho8 hg8 hat8 hlt8; go_must (have HPu := hide (HLS.out.push HB6.out HIT.out ho8 hg8 hat8)); have hp8 := HPu.out.1; have hf8 := HPu.out.2.1; clear ho8 hg8 hat8 hlt8)
        have HKp : Hid (∀ k, k < X → (w8.setCell ⟨X, 2, none⟩ (.slice (some ⟨g8, 0, none⟩) (css.length + 1) c8)).heap[k]? = wr.heap[k]?) := by
          intro k hk
          rw [Below.heap_setCell _ _ _ _ (by show k ≠ X; omega), HPu.out.2.2.1 k (by omega) (fun e => by have := own_ge HLS.out.own (Nat.le_refl _) _ e; omega)]
        go_roundw
        case rel => exact ⟨css ++ [[.bool l0, .string b0, .slice ao0 lo0 lc0]], pss ++ [qs], _, a' + qs.length, by congr 1, by congr 1; simp, by have := HQ.out.1; have := HFl.out; omega, HDL.out.1, HD3.out, by simp; omega, by have := HQ.out.2.2.2.2.1; simp; omega, HPu.out.2.2.2, by unfold Z3; rw [HKp.out _ (by omega)]; exact HZ.out, by unfold P3; rw [HKp.out _ (by omega)]; exact HPP.out⟩
        case measure => have := HDL.out.1; simp [intOf]; omega
      · have HNo : Hid (NoIt (ps.drop a)) := by
          show NoIt _
          rw [HD.out, HQ.out.2.2.1]
          refine NoIt.short (fun txt lst => vals txt lst pss (fun i hi => ItIs.val r _ _ (HLS.out.its i (by have := HLS.out.len; omega)) txt lst)) hno ?_
          have := HLS.out.len
          show (pss.length : Int) < c
          omega
        have h7 : ∀ o, Z3 (w6.alloc o) w.heap.size := fun o => by
          unfold Z3
          rw [Below.heap_alloc _ _ _ (by have := hb6.size; omega), hb6.block _ (by omega)]; exact HZ.out
        have y0 : ∀ o, (w6.alloc o).cell? ⟨w.heap.size, 0, none⟩ = some (.bool false) := fun o => (h7 o).get.1
        have y1 : ∀ o, (w6.alloc o).cell? ⟨w.heap.size, 1, none⟩ = some (.string ⟨#[]⟩) := fun o => (h7 o).get.2.1
        have y2 : ∀ o, (w6.alloc o).cell? ⟨w.heap.size, 2, none⟩ = some (.slice none 0 0) := fun o => (h7 o).get.2.2.1
        have yf : ∀ o j, (w6.alloc o).frozen? ⟨w.heap.size, j, none⟩ = false := fun o j => (h7 o).get.2.2.2 j
        have HB6 := hide hb6
        clear h7 hb6 hno
        unfold it0
        go_wp2
        refine bodyPost_ret (v := .tuple #[it0, .int .i64 (a' : Int), .bool false]) (by simp [results, Try.results27, go_sem, it0, y0, y1, y2]) rfl (.inr ⟨_, rfl, HNo.out, ?_⟩)
        have hw := HLS.out.bel.size
        exact ((((HLS.out.bel.trans (HB6.out.mono hw)).alloc (Nat.le_trans hw HB6.out.size) _).setCell (Nat.le_refl _) _).setCell (Nat.le_refl _) _).setCell (Nat.le_refl _) _
    · have hce : c = (css.length : Int) := by have := HQ.out.2.2.2.1; omega
      have HIs := hide (HLS.out.done (w' := wr) (R := w.heap.size) (by omega) (Nat.le_refl _) (fun k _ => rfl))
      have HQs : Hid (ps.drop a = ((true, css.length, ⟨#[]⟩) :: pss.flatten).map toI ++ ps.drop a' ∧ a + ((true, css.length, (⟨#[]⟩ : ByteArray)) :: pss.flatten).length = a') := by
        refine ⟨?_, ?_⟩
        · rw [HD.out, HQ.out.2.2.1, hce]; rfl
        · have := HQ.out.1; rw [List.length_cons]; omega
      have x0 : wr.cell? ⟨X, 0, none⟩ = some (.bool true) := cell_of_row wr _ 0 _ _ (0, 0) HLS.out.blk
      have x1 : wr.cell? ⟨X, 1, none⟩ = some (.string ⟨#[]⟩) := cell_of_row wr _ 1 _ _ (0, 0) HLS.out.blk
      have x2 : wr.cell? ⟨X, 2, none⟩ = some lk := cell_of_row wr _ 2 _ _ (0, 0) HLS.out.blk
      obtain ⟨y0, y1, y2, yf⟩ := HZ.out.get
      obtain ⟨ao, lo, lc, hlv⟩ : ∃ ao lo lc, lk = .slice ao lo lc := by
        rcases HLS.out.own.2 with ⟨rfl, _⟩ | ⟨g, c, cur, rfl, _⟩
        · exact ⟨_, _, _, rfl⟩
        · exact ⟨_, _, _, rfl⟩
      subst hlv
      have hge : c ≤ (css.length : Int) := by omega
      clear hce
      go_wp2
      refine bodyPost_ret (v := .tuple #[.agg #[.bool true, .string ⟨#[]⟩, .slice ao lo lc], .int .i64 (a' : Int), .bool true]) (by simp [results, Try.results27, go_sem, y0, y1, y2]) rfl (.inl ⟨_, _, _, _, _, HQs.out.1, by rw [HQs.out.2], ?_, ?_⟩)
      · exact HLS.out.done (R := w.heap.size) (by omega) (Nat.le_refl _) (fun k hk => by rw [Below.heap_setCell _ _ _ _ hk, Below.heap_setCell _ _ _ _ hk, Below.heap_setCell _ _ _ _ hk])
      · exact ((HLS.out.bel.setCell (Nat.le_refl _) _).setCell (Nat.le_refl _) _).setCell (Nat.le_refl _) _

theorem built_any (ao : Option Addr) (cap : Nat) (ps : List IPrt) (hn : ps.length ≤ 400) : ∀ (r a : Nat) (w : World), a ≤ ps.length → ps.length - a ≤ r → IPrts w ao ps → Calls Try.prog 27 #[.slice ao ps.length cap, .int .i64 (a : Int)] w fun e w' => BuPost r ps a w e w'
  | 0, a, w, ha, hr, hp => by
    obtain rfl : a = ps.length := by omega
    exact built_end 0 ao cap ps w hn
  | r + 1, a, w, ha, hr, hp => by
    by_cases he : a = ps.length
    · subst he; exact built_end (r + 1) ao cap ps w hn
    · have hlt : a < ps.length := by omega
      cases hs : sndP (ps.getD a (false, 0, ⟨#[]⟩)) with
      | false => exact built_bad (r + 1) ao cap ps a w hn hlt hp hs
      | true =>
        rcases hpd : ps.getD a (false, 0, ⟨#[]⟩) with ⟨l, c, d⟩
        rw [hpd] at hs
        cases l with
        | false =>
          obtain rfl : c = 0 := by simpa [sndP] using hs
          exact built_text (r + 1) ao cap ps a d w hn hlt hp hpd
        | true =>
          have h2 : 0 ≤ c ∧ d.size = 0 := by simpa [sndP] using hs
          obtain rfl := empty_of_size h2.2
          exact built_list r ao cap ps a c w hn hlt hp hpd h2.1 (fun a' W h3 h4 h5 => built_any ao cap ps hn r a' W h4 (by omega) h5)
end Go.Proofs.Ytoafiieciiijbaa
