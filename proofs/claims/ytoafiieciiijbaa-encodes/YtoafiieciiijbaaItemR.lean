/-
  OUR OWN: items: the reference's cut at a list, item after item.
-/
import Derived.Test.YtoafiieciiijbaaItemQ
namespace Go.Proofs.Ytoafiieciiijbaa
open Go.RowKit
attribute [local go_sem ↓] Go.wp_at_zero Go.wp_at_succ

set_option maxHeartbeats 4000000 in
set_option maxRecDepth 20000 in
theorem cut_list (s : ByteArray) (hs : s.size ≤ 6000) (r d a limit : Nat) (ih : CutOk s r (d + 1)) (hd7 : d < 8) (ha : a < limit) (hlim : limit ≤ s.size) (t : ByteArray) (ht : t = s.extract a limit) (z x y : Nat) (w : World) (hb : byteN t 0 = 192 + z) (hz : z ≤ 63) (hxy : x ≤ y) (hyt : y ≤ t.size) (hx1 : 1 ≤ x) (hsp : spanN t 0 z t.size = ((x, y), 0)) :
    Calls Try.prog 49 #[.string t, .int .i64 (d : Int)] w fun e w' => CutPost (r + 1) (listN (some (readN s r)) (a + x) (a + y)) a w e w' := by
  obtain ⟨i0, hi, hz0, hz1, hz2⟩ := info_parts infoIt
  have hts : t.size = limit - a := by rw [ht]; exact ext_size s a limit (by omega) hlim
  have h0 : 0 < t.size := by omega
  have HB := hide (byteN_eq t 0 h0)
  have h3 : (t[0].toNat : Int) = 192 + (z : Int) := by rw [HB.out]; omega
  have HS : Hid (∀ W, Calls Try.prog 62 #[.string t, .int .i64 (192 + (z : Int) - 192)] W fun e w' => e = .returned (.tuple #[.int .i64 (x : Int), .int .i64 (y : Int), .int .i64 0]) ∧ w' = W) := by
    intro W
    have h := span_any t z W (by omega) hz
    rw [hsp] at h
    rwa [show (z : Int) = 192 + (z : Int) - 192 from by omega] at h
  have HK := hide (And.intro hs (And.intro ha (And.intro hlim (And.intro hts (And.intro hxy (And.intro hyt hx1))))))
  have HE : Hid (∀ f, f ≤ y → t.extract f y = s.extract (a + f) (a + y)) := fun f _ => by rw [ht]; exact ext_ext s a limit f y (by omega)
  have b2 : (0 : Int) < (t.size : Int) := by omega
  have b3 : ((t.size : Int) == 0) = false := beq_false_of_ne (by omega)
  have b4 : (z : Int) ≤ 63 := by omega
  have b5 : (0 : Int) ≤ (z : Int) := by omega
  have b6 : decide ((8 : Int) ≤ (d : Int)) = false := by simp; omega
  have b6b : (d : Int) < 8 := by omega
  have b7 : decide (192 + (z : Int) < 128) = false := by simp; omega
  have b8 : decide (192 + (z : Int) < 192) = false := by simp; omega
  have b9 : (0 : Int) ≤ (d : Int) := by omega
  have by1 : (y : Int) ≤ (t.size : Int) := by omega
  have hR : Hid (((w.alloc (.cells #[.bool false, .string ⟨#[]⟩, .slice none 0 0] 66)).alloc (.cells #[.bool true, .string ⟨#[]⟩, .slice none 0 0] 66)).heap[w.heap.size]? = some (.cells #[.bool false, .string ⟨#[]⟩, .slice none 0 0] 66 (0, 0))) := by
    show _ = _
    rw [Below.heap_alloc _ _ _ (by simp)]
    exact heap_alloc_new w _
  have HL0 : Hid (Ls r w ((w.alloc (.cells #[.bool false, .string ⟨#[]⟩, .slice none 0 0] 66)).alloc (.cells #[.bool true, .string ⟨#[]⟩, .slice none 0 0] 66)) (w.heap.size + 1) (.slice none 0 0) [] []) :=
    ⟨by have := heap_alloc_new (w.alloc (.cells #[.bool false, .string ⟨#[]⟩, .slice none 0 0] 66)) (.cells #[.bool true, .string ⟨#[]⟩, .slice none 0 0] 66); simpa using this, World.ownsRow_nil _ _ _ _, rfl, fun i hi => by simp at hi, below_alloc2 _ _ _, Nat.le_succ _⟩
  clear hb hsp hz hts hxy hyt hs ha hlim ht
  go_enter Try.func49, Try.ntmps49
  go_wp2_with fail
  refine (HS.out _).mono ?_
  rintro e w1 ⟨rfl, rfl⟩
  go_wp2_with fail
  clear b6 b7 b8 b3 HB
  obtain ⟨W0, hW0⟩ : ∃ W0, W0 = (w.alloc (.cells #[.bool false, .string ⟨#[]⟩, .slice none 0 0] 66)).alloc (.cells #[.bool true, .string ⟨#[]⟩, .slice none 0 0] 66) := ⟨_, rfl⟩
  rw [← hW0] at HL0 hR
  rw [← hW0]
  clear hW0
  go_loopw [11] (fun i wr => ∃ (m f : Nat) (css : List (List Value)) (pss : List (List Prt)) (lk : Value), i = .int .i64 (f : Int) ∧ x + css.length ≤ f ∧ f ≤ y ∧ (a + y) - (a + f) ≤ m ∧ itemsA (fun q => readN s r q (a + y)) (a + y) ((a + y) - (a + x)) (a + x) [] 0 = itemsA (fun q => readN s r q (a + y)) (a + y) m (a + f) pss.flatten css.length ∧ wr.heap[w.heap.size]? = some (.cells #[.bool false, .string ⟨#[]⟩, .slice none 0 0] 66 (0, 0)) ∧ Ls r w wr (w.heap.size + 1) lk css pss) (fun i _ => y - (intOf i).toNat)
  case atStart => exact ⟨(a + y) - (a + x), x, [], [], _, rfl, Nat.le_refl _, HK.out.2.2.2.2.1, Nat.le_refl _, rfl, hR.out, HL0.out⟩
  case round =>
    obtain ⟨m, f, css, pss, lk, rfl, q1, q2, q3, q4, q5, q6⟩ := hrel
    have HQ := hide (And.intro q1 (And.intro q2 (And.intro q3 (And.intro q4 (And.intro q5 q6)))))
    clear q1 q2 q3 q4 q5 q6
    by_cases hlt : f < y
    · have cl : (f : Int) < (y : Int) := by omega
      have cf : (0 : Int) ≤ (f : Int) := by omega
      obtain ⟨m', hm'⟩ : ∃ m', m = m' + 1 := ⟨m - 1, by have := HQ.out.2.2.1; omega⟩
      subst hm'
      have HIH0 : Hid (Calls Try.prog 49 #[.string (t.extract f y), .int .i64 ((d : Int) + 1)] wr fun e w' => CutPost r (readN s r (a + f) (a + y)) (a + f) wr e w') := by
        show Calls _ _ _ _ _
        rw [HE.out f (by omega)]
        exact ih (a + f) (a + y) wr (by omega) (by have := HK.out; omega)
      have hRl : w.heap.size < wr.heap.size := by have := HQ.out.2.2.2.2.2.lt; omega
      have HRL := hide hRl
      clear hRl
      cases hr : readN s r (a + f) (a + y) with
      | error er =>
        rw [hr] at HIH0
        have he0 : (er != 0) = true := by simpa using readN_err s r _ _ er hr
        have HE2 : Hid (listN (some (readN s r)) (a + x) (a + y) = .error er) := by
          show listN (some (readN s r)) (a + x) (a + y) = _
          unfold listN
          simp only
          rw [HQ.out.2.2.2.1, itemsA_bad (R := fun q => readN s r q (a + y)) (by omega) hr]
        clear hr
        go_wp2_with fail
        refine HIH0.out.mono ?_
        rintro e w6 ⟨rfl, hb6⟩
        have h6 : ∀ o, (w6.alloc o).heap[w.heap.size]? = some (.cells #[.bool false, .string ⟨#[]⟩, .slice none 0 0] 66 (0, 0)) := fun o => by
          rw [Below.heap_alloc _ _ _ (Nat.lt_of_lt_of_le HRL.out hb6.size), hb6.block _ HRL.out]; exact HQ.out.2.2.2.2.1
        have y0 : ∀ o, (w6.alloc o).cell? ⟨w.heap.size, 0, none⟩ = some (.bool false) := fun o => cell_of_row _ _ 0 _ _ (0, 0) (h6 o)
        have y1 : ∀ o, (w6.alloc o).cell? ⟨w.heap.size, 1, none⟩ = some (.string ⟨#[]⟩) := fun o => cell_of_row _ _ 1 _ _ (0, 0) (h6 o)
        have y2 : ∀ o, (w6.alloc o).cell? ⟨w.heap.size, 2, none⟩ = some (.slice none 0 0) := fun o => cell_of_row _ _ 2 _ _ (0, 0) (h6 o)
        have yf : ∀ o j, (w6.alloc o).frozen? ⟨w.heap.size, j, none⟩ = false := fun o j => by unfold World.frozen?; simp [h6 o]
        have HB6 := hide hb6
        clear h6 hb6
        unfold it0
        go_wp2
        rw [HE2.out]
        refine bodyPost_ret (v := .tuple #[it0, .int .i64 0, .int .i64 er]) (by simp [results, Try.results49, go_sem, it0, y0, y1, y2]) rfl ⟨rfl, ?_⟩
        have hw := HQ.out.2.2.2.2.2.bel.size
        exact ((((HQ.out.2.2.2.2.2.bel.trans (HB6.out.mono hw)).alloc (Nat.le_trans hw HB6.out.size) _).setCell (Nat.le_refl _) _).setCell (Nat.le_refl _) _).setCell (Nat.le_refl _) _
      | ok yy =>
        obtain ⟨qs, b⟩ := yy
        rw [hr] at HIH0
        have hb2 := hide (And.intro (readN_len s r _ _ qs b hr) (readN_pos s r _ _ qs b hr))
        have HST : Hid (itemsA (fun q => readN s r q (a + y)) (a + y) (m' + 1) (a + f) pss.flatten css.length = itemsA (fun q => readN s r q (a + y)) (a + y) m' b (pss.flatten ++ qs) (css.length + 1)) := itemsA_go (R := fun q => readN s r q (a + y)) (by omega) hr
        clear hr
        go_wp2_with fail
        refine HIH0.out.mono ?_
        rintro e w6 ⟨c0, c1, c2, rfl, hit, hb6⟩
        obtain ⟨l0, b0, ao0, lo0, lc0, hsh⟩ := hit.shape
        simp only [List.cons.injEq, and_true] at hsh
        obtain ⟨rfl, rfl, rfl⟩ := hsh
        have HLS := hide HQ.out.2.2.2.2.2
        have h6 : ∀ o, (w6.alloc o).heap[w.heap.size + 1]? = some (.cells #[.bool true, .string ⟨#[]⟩, lk] 66 (0, 0)) := fun o => by
          rw [Below.heap_alloc _ _ _ (Nat.lt_of_lt_of_le HLS.out.lt hb6.size), hb6.block _ HLS.out.lt]; exact HLS.out.blk
        have x2 : ∀ o, (w6.alloc o).cell? ⟨w.heap.size + 1, 2, none⟩ = some lk := fun o => cell_of_row _ _ 2 _ _ (0, 0) (h6 o)
        have HB6 := hide hb6
        have HIT := hide hit
        obtain ⟨ao, lc, hlv⟩ : ∃ ao lc, lk = .slice ao css.length lc := by
          rcases HLS.out.own.2 with ⟨rfl, h0⟩ | ⟨g, c, cur, rfl, _⟩
          · exact ⟨none, 0, by rw [h0]⟩
          · exact ⟨_, _, rfl⟩
        subst hlv
        have HOW : Hid (((w6.alloc (.cells #[.bool l0, .string b0, .slice ao0 lo0 lc0] 66)).alloc (.cells #[.bool l0, .string b0, .slice ao0 lo0 lc0] 66)).ownsRow (w.heap.size + 1 + 1) 66 3 (.slice ao css.length lc) css.length css.flatten) := ((own_far HLS.out.own (fun g _ hg => hb6.block g hg)).alloc _).alloc _
        have HNW : Hid (∀ j u, [Value.bool l0, .string b0, .slice ao0 lo0 lc0][j]? = some u → ((w6.alloc (.cells #[.bool l0, .string b0, .slice ao0 lo0 lc0] 66)).alloc (.cells #[.bool l0, .string b0, .slice ao0 lo0 lc0] 66)).cell? ((⟨w6.heap.size + 1, 0, none⟩ : Addr).add j) = some u) := by
          have h := news_ofT (w6.alloc (.cells #[.bool l0, .string b0, .slice ao0 lo0 lc0] 66)) 66 [.bool l0, .string b0, .slice ao0 lo0 lc0]
          rwa [show (w6.alloc (.cells #[.bool l0, .string b0, .slice ao0 lo0 lc0] 66)).heap.size = w6.heap.size + 1 from by simp] at h
        have n1 : ((b - (a + f) : Nat) : Int) ≤ 6000 := by have := hb2.out; have := HK.out; omega
        have n0 : (0 : Int) ≤ ((b - (a + f) : Nat) : Int) := by omega
        have nf : (f : Int) ≤ 6000 := by have := HK.out; omega
        clear h6 hb6 hit
        go_wp2_with (at_builtin; go_must (refine wpList_append_lies _ rfl (.tmp 101) (.tmp 103) 64 rfl (w.heap.size + 1 + 1) 66 i0 _ 3 48 Try.underlying64 hi hz0 hz1 hz2 rfl (by omega) (.slice ao css.length lc) css.length css.flatten rfl HOW.out (⟨w6.heap.size + 1, 0, none⟩ : Addr) 1 1 [.bool l0, .string b0, .slice ao0 lo0 lc0] (by simp [Act.eval]) (by rfl) HNW.out (by simp [Value.oneCell']) (by omega) (by have := HK.out; have := HQ.out; unfold maxLen; omega) (by have := HK.out; have := HQ.out; omega) (by have := HLS.out.lt; have := HB6.out.size; simp; omega) _ rfl ?_); intro g8 c8 w8 ho8 hg8 hat8 hlt8; go_must (have HP := hide (HLS.out.push HB6.out HIT.out ho8 hg8 hat8)); have hp8 := HP.out.1; have hf8 := HP.out.2.1; clear ho8 hg8 hat8 hlt8)
        have HRB : Hid ((w8.setCell ⟨w.heap.size + 1, 2, none⟩ (.slice (some ⟨g8, 0, none⟩) (css.length + 1) c8)).heap[w.heap.size]? = some (.cells #[.bool false, .string ⟨#[]⟩, .slice none 0 0] 66 (0, 0))) := by
          show _ = _
          rw [Below.heap_setCell _ _ _ _ (by show w.heap.size ≠ w.heap.size + 1; omega), HP.out.2.2.1 w.heap.size HRL.out (fun e => by have := own_ge HLS.out.own (Nat.le_refl _) _ e; omega)]
          exact HQ.out.2.2.2.2.1
        have HAB : Hid (a + (b - a) = b) := by show _ = _; have := hb2.out; omega
        go_roundw
        case rel => exact ⟨m', b - a, css ++ [[.bool l0, .string b0, .slice ao0 lo0 lc0]], pss ++ [qs], _, by have := hb2.out; congr 1; omega, by have := hb2.out; have := HQ.out.1; simp; omega, by have := hb2.out; omega, by have := hb2.out; have := HQ.out.2.2.1; omega, by rw [HAB.out, HQ.out.2.2.2.1, HST.out]; simp, HRB.out, HP.out.2.2.2⟩
        case measure => simp [intOf]; have := hb2.out; omega
    · have cl : decide ((f : Int) < (y : Int)) = false := by simp; omega
      have HE2 : Hid (listN (some (readN s r)) (a + x) (a + y) = .ok ((true, css.length, ⟨#[]⟩) :: pss.flatten, a + y)) := by
        show listN (some (readN s r)) (a + x) (a + y) = _
        unfold listN
        simp only
        rw [HQ.out.2.2.2.1, itemsA_end (by omega)]
      have x0 : wr.cell? ⟨w.heap.size + 1, 0, none⟩ = some (.bool true) := cell_of_row wr _ 0 _ _ (0, 0) HQ.out.2.2.2.2.2.blk
      have x1 : wr.cell? ⟨w.heap.size + 1, 1, none⟩ = some (.string ⟨#[]⟩) := cell_of_row wr _ 1 _ _ (0, 0) HQ.out.2.2.2.2.2.blk
      have x2 : wr.cell? ⟨w.heap.size + 1, 2, none⟩ = some lk := cell_of_row wr _ 2 _ _ (0, 0) HQ.out.2.2.2.2.2.blk
      have y0 : wr.cell? ⟨w.heap.size, 0, none⟩ = some (.bool false) := cell_of_row wr _ 0 _ _ (0, 0) HQ.out.2.2.2.2.1
      have y1 : wr.cell? ⟨w.heap.size, 1, none⟩ = some (.string ⟨#[]⟩) := cell_of_row wr _ 1 _ _ (0, 0) HQ.out.2.2.2.2.1
      have y2 : wr.cell? ⟨w.heap.size, 2, none⟩ = some (.slice none 0 0) := cell_of_row wr _ 2 _ _ (0, 0) HQ.out.2.2.2.2.1
      have yf : ∀ j, wr.frozen? ⟨w.heap.size, j, none⟩ = false := fun j => by unfold World.frozen?; simp [HQ.out.2.2.2.2.1]
      have hlk : lk.oneCell' = true := by
        rcases HQ.out.2.2.2.2.2.own.2 with ⟨rfl, _⟩ | ⟨g, c, cur, rfl, _⟩ <;> rfl
      obtain ⟨ao, lo, lc, hlv⟩ : ∃ ao lo lc, lk = .slice ao lo lc := by
        rcases HQ.out.2.2.2.2.2.own.2 with ⟨rfl, _⟩ | ⟨g, c, cur, rfl, _⟩
        · exact ⟨_, _, _, rfl⟩
        · exact ⟨_, _, _, rfl⟩
      subst hlv
      have HV : Hid (((a + y - a : Nat) : Int) = (y : Int)) := by show _ = _; omega
      go_wp2
      rw [HE2.out]
      refine bodyPost_ret (v := .tuple #[.agg #[.bool true, .string ⟨#[]⟩, .slice ao lo lc], .int .i64 (y : Int), .int .i64 0]) (by simp [results, Try.results49, go_sem, y0, y1, y2]) rfl ⟨.bool true, .string ⟨#[]⟩, .slice ao lo lc, by rw [HV.out], ?_, ?_⟩
      · exact HQ.out.2.2.2.2.2.done (R := w.heap.size) (Nat.lt_succ_self _) (Nat.le_refl _) (fun k hk => by rw [Below.heap_setCell _ _ _ _ hk, Below.heap_setCell _ _ _ _ hk, Below.heap_setCell _ _ _ _ hk])
      · exact ((HQ.out.2.2.2.2.2.bel.setCell (Nat.le_refl _) _).setCell (Nat.le_refl _) _).setCell (Nat.le_refl _) _
end Go.Proofs.Ytoafiieciiijbaa
