/-
  OUR OWN: items: the walk of readList.
-/
import Derived.Test.YtoafiieciiijbaaItemH
namespace Go.Proofs.Ytoafiieciiijbaa
open Go.RowKit
attribute [local go_sem ↓] Go.wp_at_zero Go.wp_at_succ

/-- what a call of readList answers -/
def ListPost (s : ByteArray) (res : Except Int (List Prt × Nat)) (B : Nat) (lv : Value) (ps : List Prt) (w : World) (e : Ending) (w' : World) : Prop :=
  match res with
  | .error x => e = .returned (.int .i64 x) ∧ ∃ lv', Fr B lv lv' w w'
  | .ok (qs, _) => e = .returned (.int .i64 0) ∧ ∃ lv', Fr B lv lv' w w' ∧ St w' B s lv' (ps ++ qs)

set_option maxRecDepth 20000 in
theorem readList_deep (s : ByteArray) (B st en d : Nat) (lv : Value) (ps : List Prt) (w : World) (hd8 : 8 ≤ d) :
    Calls Try.prog 61 #[.pointer (some ⟨B, 0, none⟩), hd true st en, .int .i64 (d : Int)] w fun e w' => ListPost s (.error 6) B lv ps w e w' := by
  unfold hd
  have c1 : (8 : Int) ≤ (d : Int) := by omega
  go_enter Try.func61, Try.ntmps61
  go_wp2
  go_ret
  exact ⟨rfl, lv, Fr.of_below (below_alloc _ _)⟩

set_option maxHeartbeats 2000000 in
set_option maxRecDepth 20000 in
theorem readList_any (s : ByteArray) (hs : s.size ≤ 6000) (r d : Nat) (ih : ReadOk s r (d + 1)) (hd7 : d < 8) (B st en : Nat) (lv : Value) (ps : List Prt) (w : World) (hst : St w B s lv ps) (hse : st ≤ en) (hen : en ≤ s.size) (hps : ps.length + 1 ≤ st) :
    Calls Try.prog 61 #[.pointer (some ⟨B, 0, none⟩), hd true st en, .int .i64 (d : Int)] w fun e w' => ListPost s (listN (some (readN s r)) st en) B lv ps w e w' := by
  obtain ⟨i0, hi, hz0, hz1, hz2⟩ := info_parts info24
  unfold hd
  have c1 : (d : Int) < 8 := by omega
  have c0 : (0 : Int) ≤ (d : Int) := by omega
  have HT0 := hide hst
  have HT : Hid (St (w.alloc (.cells #[.bool true, .int .i64 (st : Int), .int .i64 (en : Int)] 113)) B s lv ps) := hst.keep (below_alloc _ _)
  have hp : ∀ o, (w.alloc o).cell? ⟨B, 1, none⟩ = some lv := fun o => (hst.keep (below_alloc _ o)).parts
  have HFW : Hid (Fr B lv lv w (w.alloc (.cells #[.bool true, .int .i64 (st : Int), .int .i64 (en : Int)] 113))) := Fr.of_below (below_alloc _ _)
  have HK := hide (And.intro hse (And.intro hen (And.intro hps hs)))
  have HX : Hid ((w.alloc (.cells #[.bool true, .int .i64 (st : Int), .int .i64 (en : Int)] 113)).heap[w.heap.size]? = some (.cells #[.bool true, .int .i64 (st : Int), .int .i64 (en : Int)] 113 (0, 0))) := heap_alloc_new w _
  have HN : Hid (∀ j u, (pcell (true, 0, ⟨#[]⟩))[j]? = some u → ((w.alloc (.cells #[.bool true, .int .i64 (st : Int), .int .i64 (en : Int)] 113)).alloc (.cells #[.bool true, .int .i64 0, .string ⟨#[]⟩] 24)).cell? ((⟨w.heap.size + 1, 0, none⟩ : Addr).add j) = some u) := by
    have h := pcell_news (w.alloc (.cells #[.bool true, .int .i64 (st : Int), .int .i64 (en : Int)] 113)) (true, 0, ⟨#[]⟩)
    rwa [show (w.alloc (.cells #[.bool true, .int .i64 (st : Int), .int .i64 (en : Int)] 113)).heap.size = w.heap.size + 1 from by simp] at h
  obtain ⟨ao, c, hlv⟩ : ∃ ao c, lv = .slice ao ps.length c := by
    rcases hst.own.2 with ⟨rfl, h0⟩ | ⟨g, c, cur, rfl, _⟩
    · exact ⟨none, 0, by rw [h0]⟩
    · exact ⟨_, _, rfl⟩
  subst hlv
  have hB1 : ¬ w.heap.size = B := by have := hst.lt; omega
  clear hse hen hps hs hst
  go_enter Try.func61, Try.ntmps61
  go_wp2_with (at_builtin; go_must (refine wpList_append_lies _ rfl (.tmp 22) (.tmp 24) 22 rfl (B + 1) 24 i0 _ 3 32 Try.underlying22 hi hz0 hz1 hz2 rfl (by omega) (.slice ao ps.length c) ps.length (pcells ps) rfl (HT.out.keep (below_alloc _ _)).own (⟨w.heap.size + 1, 0, none⟩ : Addr) 1 1 (pcell (true, 0, ⟨#[]⟩)) (by simp [Act.eval]) (by rfl) HN.out (by simp [pcell, Value.oneCell']) (by omega) (by have := HK.out; unfold maxLen; omega) (by have := HK.out; omega) (by have := HT0.out.lt; simp; omega) _ rfl ?_); intro g4 c4 w4 ho4 hg4 hat4 hlt4; go_must (have HF := hide (push_facts (p := (true, 0, ⟨#[]⟩)) HT.out (Below.refl _ _) ho4 hg4 hat4)); have hp4 := HF.out.1; have hf4 := HF.out.2.1; have hx4 : w4.heap[w.heap.size]? = some (.cells #[.bool true, .int .i64 (st : Int), .int .i64 (en : Int)] 113 (0, 0)) := (HF.out.2.2.1 w.heap.size (by simp) (fun e => absurd (HT0.out.row_lt _ e) (Nat.lt_irrefl _))).trans HX.out; have hx5 : w4.cell? ⟨w.heap.size, 1, none⟩ = some (.int .i64 (st : Int)) := cell_of_row w4 _ 1 _ _ (0, 0) hx4; have HX4 := hide hx4; clear hx4 ho4 hg4 hat4 hlt4)
  obtain ⟨W5, hW5⟩ : ∃ W5, W5 = w4.setCell ⟨B, 1, none⟩ (.slice (some ⟨g4, 0, none⟩) (ps.length + 1) c4) := ⟨_, rfl⟩
  have HF5 : Hid (Fr B (.slice ao ps.length c) (.slice (some ⟨g4, 0, none⟩) (ps.length + 1) c4) (w.alloc (.cells #[.bool true, .int .i64 (st : Int), .int .i64 (en : Int)] 113)) W5) := by rw [hW5]; exact HF.out.2.2.2.2
  have HT5 : Hid (St W5 B s (.slice (some ⟨g4, 0, none⟩) (ps.length + 1) c4) (ps ++ (true, 0, ⟨#[]⟩) :: [])) := by rw [hW5]; exact HF.out.2.2.2.1
  rw [← hW5]
  clear hW5 HF hp4 hf4 hx5 HX4 hp HN
  go_loopw [8] (fun i wr => ∃ (m a n : Nat) (acc : List Prt) (lk : Value), i = .int .i64 (a : Int) ∧ st + n ≤ a ∧ a ≤ en ∧ en - a ≤ m ∧ itemsA (fun x => readN s r x en) en (en - st) st [] 0 = itemsA (fun x => readN s r x en) en m a acc n ∧ (ps ++ (true, n, ⟨#[]⟩) :: acc).length ≤ a ∧ St wr B s lk (ps ++ (true, n, ⟨#[]⟩) :: acc) ∧ Fr B (.slice ao ps.length c) lk (w.alloc (.cells #[.bool true, .int .i64 (st : Int), .int .i64 (en : Int)] 113)) wr) (fun i _ => en - (intOf i).toNat)
  case atStart => exact ⟨en - st, st, 0, [], _, rfl, Nat.le_refl _, HK.out.1, Nat.le_refl _, rfl, by have := HK.out; simp; omega, HT5.out, HF5.out⟩
  case round =>
    obtain ⟨m, a, n, acc, lk, rfl, q1, q2, q3, q4, q5, q6, q7⟩ := hrel
    have HQ := hide (And.intro q1 (And.intro q2 (And.intro q3 (And.intro q4 (And.intro q5 (And.intro q6 q7))))))
    have hx : wr.heap[w.heap.size]? = some (.cells #[.bool true, .int .i64 (st : Int), .int .i64 (en : Int)] 113 (0, 0)) := (q7.block w.heap.size (by simp) hB1 (fun e => absurd (HT0.out.row_lt _ e) (Nat.lt_irrefl _))).trans HX.out
    have hx2 : wr.cell? ⟨w.heap.size, 2, none⟩ = some (.int .i64 (en : Int)) := cell_of_row wr _ 2 _ _ (0, 0) hx
    have HX5 := hide hx
    clear q1 q2 q3 q4 q5 q6 q7 hx
    by_cases hlt : a < en
    · have cl : (a : Int) < (en : Int) := by omega
      obtain ⟨m', hm'⟩ : ∃ m', m = m' + 1 := ⟨m - 1, by have := HQ.out.2.2.1; omega⟩
      subst hm'
      have HLN : Hid (listN (some (readN s r)) st en = match itemsA (fun x => readN s r x en) en (m' + 1) a acc n with | .error x => .error x | .ok (ps, n) => .ok ((true, n, ⟨#[]⟩) :: ps, en)) := by
        show listN (some (readN s r)) st en = _
        rw [← HQ.out.2.2.2.1]; rfl
      cases hr : readN s r a en with
      | error x =>
        have hx0 : (x != 0) = true := by simpa using readN_err s r a en x hr
        have HE : Hid (listN (some (readN s r)) st en = .error x) := by
          show _ = _; rw [HLN.out, itemsA_bad hlt hr]
        have HIH : Hid (Calls Try.prog 48 #[.pointer (some ⟨B, 0, none⟩), .int .i64 (a : Int), .int .i64 (en : Int), .int .i64 ((d : Int) + 1)] wr fun e w' => ReadPost s (.error x) B lk (ps ++ (true, n, ⟨#[]⟩) :: acc) wr e w') := by
          have h := ih B a en lk (ps ++ (true, n, ⟨#[]⟩) :: acc) wr HQ.out.2.2.2.2.2.1 HK.out.2.1 HQ.out.2.1 HQ.out.2.2.2.2.1
          rw [hr] at h
          exact h
        clear hr HLN
        go_wp2_with fail
        refine HIH.out.mono ?_
        rintro e w6 ⟨⟨nn, rfl⟩, lk6, hf6⟩
        go_wp2
        rw [HE.out]
        go_ret
        exact ⟨rfl, lk6, (HFW.out.trans HQ.out.2.2.2.2.2.2).trans hf6⟩
      | ok y =>
        obtain ⟨qs, b⟩ := y
        have hb := And.intro (readN_len s r a en qs b hr) (readN_pos s r a en qs b hr)
        have HIH : Hid (Calls Try.prog 48 #[.pointer (some ⟨B, 0, none⟩), .int .i64 (a : Int), .int .i64 (en : Int), .int .i64 ((d : Int) + 1)] wr fun e w' => ReadPost s (.ok (qs, b)) B lk (ps ++ (true, n, ⟨#[]⟩) :: acc) wr e w') := by
          have h := ih B a en lk (ps ++ (true, n, ⟨#[]⟩) :: acc) wr HQ.out.2.2.2.2.2.1 HK.out.2.1 HQ.out.2.1 HQ.out.2.2.2.2.1
          rw [hr] at h
          exact h
        have HST : Hid (itemsA (fun x => readN s r x en) en (m' + 1) a acc n = itemsA (fun x => readN s r x en) en m' b (acc ++ qs) (n + 1)) := itemsA_go (R := fun x => readN s r x en) hlt hr
        have hb2 := hide hb
        clear hr HLN hb
        go_wp2_with fail
        refine HIH.out.mono ?_
        rintro e w6 ⟨rfl, lk6, hf6, hs6⟩
        rw [List.append_assoc, List.cons_append] at hs6
        obtain ⟨g, c6, rfl, hcap, hcell, hfz, hst2, hfr2⟩ := hs6.bump (n + 1)
        have hp6 := hs6.parts
        have HF6 := hide hf6
        have HS2 := hide hst2
        have HR2 := hide hfr2
        have hN : (ps.length : Int) < ((ps ++ (true, n, ⟨#[]⟩) :: (acc ++ qs)).length : Int) := by simp; omega
        obtain ⟨N, hNN⟩ : ∃ N, N = (ps ++ (true, n, ⟨#[]⟩) :: (acc ++ qs)).length := ⟨_, rfl⟩
        rw [← hNN] at hp6 hN hcap
        clear hs6 hst2 hfr2 hf6
        have hcell2 : w6.cell? ⟨g, ps.length * 3 + 1, none⟩ = some (.int .i64 (n : Int)) := hcell
        have hn0 : (0 : Int) ≤ (n : Int) := by omega
        have hn1 : (n : Int) ≤ 6000 := by have := HQ.out.1; have := HQ.out.2.1; have := HK.out.2.1; have := HK.out.2.2.2; omega
        have HN2 : Hid (((n + 1 : Nat) : Int) = (n : Int) + 1) := by show _ = _; omega
        rw [HN2.out] at HS2 HR2
        clear hcell
        go_wp2_with fail
        go_roundw
        case rel => exact ⟨m', b, n + 1, acc ++ qs, _, rfl, by have := hb2.out; have := HQ.out.1; omega, hb2.out.1.2, by have := hb2.out; have := HQ.out.2.2.1; omega, HQ.out.2.2.2.1.trans HST.out, by have := hb2.out; have := HQ.out.2.2.2.2.1; simp at this ⊢; omega, HS2.out, (HQ.out.2.2.2.2.2.2.trans HF6.out).trans HR2.out⟩
        case measure => simp [intOf]; have := hb2.out; omega
    · have cl : decide ((a : Int) < (en : Int)) = false := by simp; omega
      have HE : Hid (listN (some (readN s r)) st en = .ok ((true, n, ⟨#[]⟩) :: acc, en)) := by
        show listN (some (readN s r)) st en = _
        unfold listN
        simp only
        rw [HQ.out.2.2.2.1, itemsA_end hlt]
      go_wp2_with fail
      rw [HE.out]
      go_ret
      exact ⟨rfl, lk, HFW.out.trans HQ.out.2.2.2.2.2.2, HQ.out.2.2.2.2.2.1⟩
end Go.Proofs.Ytoafiieciiijbaa
