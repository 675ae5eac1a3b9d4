/-
  OUR OWN: codes: the reference's Code.
-/
import Derived.Test.YtoafiieciiijbaaEncJ
import Derived.Deep.RegionLaw
namespace Go.Proofs.Ytoafiieciiijbaa
open Go.RowKit
attribute [local go_sem ↓] Go.wp_at_zero Go.wp_at_succ

def CodPost (qs : List Prt) (w : World) (e : Ending) (w' : World) : Prop := ∃ c : ByteArray, Vl textC listC qs c ∧ e = .returned (.string c) ∧ Below w.heap.size w w'
theorem joinB_snoc (cs : List ByteArray) (c : ByteArray) : joinB (cs ++ [c]) = joinB cs ++ c := by
  apply ByteArray.ext
  rw [ByteArray.data_append]
  simp [joinB]
theorem vl_size {qs : List Prt} {c : ByteArray} (h : Vl textC listC qs c) : c.size ≤ totP (qs.map toI) := by
  have h1 := h []
  rw [foldT_nil] at h1
  have := foldC_tot _ _ h1
  simpa [totS] using this

set_option maxHeartbeats 4000000 in
set_option maxRecDepth 20000 in
theorem code_text (b : ByteArray) (w : World) (hb : b.size < 72057594037927936) :
    Calls Try.prog 29 #[.agg #[.bool false, .string b, .slice none 0 0]] w fun e w' => CodPost [(false, 0, b)] w e w' := by
  have HV : Hid (Vl textC listC [(false, 0, b)] (textC b)) := Vl.text textC listC b
  have HS := hide hb
  clear hb
  cases ho : ownC b with
  | true =>
    have HE : Hid (textC b = b) := by show _ = _; simp [textC, ho]
    have h1 : b.size = 1 := by simp [ownC] at ho; exact ho.1
    have h0 : 0 < b.size := by omega
    have HB := hide (byteN_eq b 0 h0)
    have h2 : (b[0].toNat : Int) < 128 := by rw [HB.out]; simp [ownC] at ho; omega
    have e1 : (b.size : Int) = 1 := by omega
    clear ho h1
    go_enter Try.func29, Try.ntmps29
    go_wp2
    go_ret
    exact ⟨textC b, HV.out, by rw [HE.out]; rfl, below_alloc _ _⟩
  | false =>
    have HE : Hid (textC b = headS 128 b) := by show _ = _; simp [textC, ho]
    have HA : Hid (∀ W, Calls Try.prog 47 #[.int .i64 128, .int .i64 (b.size : Int)] W fun e w' => e = .returned (.string (strOfNums (hdr 128 b.size))) ∧ Below W.heap.size W w') := fun W => ahead_any 128 b.size W (by omega) HS.out
    have HH : Hid (headS 128 b = strOfNums (hdr 128 b.size) ++ b) := rfl
    have hz : (strOfNums (hdr 128 b.size)).size ≤ 8 := by rw [strOfNums_size]; exact hdr_length _ _
    have hz4 : ¬ 9223372036854775807 < (strOfNums (hdr 128 b.size)).size + b.size := by have := HS.out; omega
    generalize strOfNums (hdr 128 b.size) = S at *
    by_cases h1 : b.size = 1
    · have h0 : 0 < b.size := by omega
      have HB := hide (byteN_eq b 0 h0)
      have h2 : (128 : Int) ≤ (b[0].toNat : Int) := by rw [HB.out]; simp [ownC, h1] at ho; omega
      have e1 : ((b.size : Int) == 1) = true := by simp; omega
      have e0 : (0 : Int) < (b.size : Int) := by omega
      clear ho h1
      go_enter Try.func29, Try.ntmps29
      go_wp2_with fail
      go_region_law
        ((go_simp; go_at_call 47; refine (HA.out _).mono ?_; rintro e w3 ⟨rfl, hb3⟩
          have HB3 : Hid (Below w.heap.size w w3) := (below_alloc w (.cells #[.bool false, .string b, .slice none 0 0] 66)).trans (Below.mono ⟨hb3.os, hb3.tape, hb3.output, hb3.size, hb3.block⟩ (by simp))
          have hx3 : w3.cell? ⟨w.heap.size, 1, none⟩ = some (.string b) := (World.cell?_of_block (w := w.alloc (.cells #[.bool false, .string b, .slice none 0 0] 66)) (a := ⟨w.heap.size, 1, none⟩) (hb3.block _ (by simp))).trans (cell_of_row _ w.heap.size 1 _ _ (0, 0) (heap_alloc_new w _))
          clear hb3))
      all_goals
        go_wp2
        go_ret
        exact ⟨textC b, HV.out, by rw [HE.out, HH.out]; rfl, HB3.out⟩
    · have e1 : ((b.size : Int) == 1) = false := by simp; omega
      clear ho h1
      go_enter Try.func29, Try.ntmps29
      go_wp2_with fail
      go_region_law
        ((go_simp; go_at_call 47; refine (HA.out _).mono ?_; rintro e w3 ⟨rfl, hb3⟩
          have HB3 : Hid (Below w.heap.size w w3) := (below_alloc w (.cells #[.bool false, .string b, .slice none 0 0] 66)).trans (Below.mono ⟨hb3.os, hb3.tape, hb3.output, hb3.size, hb3.block⟩ (by simp))
          have hx3 : w3.cell? ⟨w.heap.size, 1, none⟩ = some (.string b) := (World.cell?_of_block (w := w.alloc (.cells #[.bool false, .string b, .slice none 0 0] 66)) (a := ⟨w.heap.size, 1, none⟩) (hb3.block _ (by simp))).trans (cell_of_row _ w.heap.size 1 _ _ (0, 0) (heap_alloc_new w _))
          clear hb3))
      all_goals
        go_wp2
        go_ret
        exact ⟨textC b, HV.out, by rw [HE.out, HH.out]; rfl, HB3.out⟩

theorem totP_map_drop (pss : List (List Prt)) (q : Nat) (h : q < pss.length) : totP ((pss.getD q []).map toI) + totP ((pss.take q).flatten.map toI) ≤ totP (pss.flatten.map toI) := by
  have e : pss.flatten = (pss.take q).flatten ++ (pss.getD q [] ++ (pss.drop (q + 1)).flatten) := by
    have e1 : pss = pss.take q ++ (pss.getD q [] :: pss.drop (q + 1)) := by simp [List.getD_eq_getElem?_getD, h]
    have e2 := congrArg List.flatten e1
    simpa using e2
  rw [e, List.map_append, List.map_append, totP_append, totP_append]
  omega
set_option maxHeartbeats 2000000 in
set_option maxRecDepth 20000 in
theorem code_list (r : Nat) (ih : ∀ (w : World) (ok : Nat → Prop) (c0 c1 c2 : Value) (ps : List Prt), ItIs r w ok [c0, c1, c2] ps → totP (ps.map toI) < 72057594037927936 → Calls Try.prog 29 #[.agg #[c0, c1, c2]] w fun e w' => CodPost ps w e w')
    (w : World) (ok : Nat → Prop) (lk : Value) (css : List (List Value)) (pss : List (List Prt)) (ho : w.ownsRow 0 66 3 lk css.length css.flatten) (hl : css.length = pss.length) (hi : ∀ i, i < css.length → ItIs r w ok (css.getD i []) (pss.getD i [])) (ht : totP (pss.flatten.map toI) < 72057594037927936) :
    Calls Try.prog 29 #[.agg #[.bool true, .string ⟨#[]⟩, lk]] w fun e w' => CodPost ((true, css.length, ⟨#[]⟩) :: pss.flatten) w e w' := by
  obtain ⟨ao, lc, hlv⟩ : ∃ ao lc, lk = .slice ao css.length lc := by
    rcases ho.2 with ⟨rfl, h0⟩ | ⟨g, c, cur, rfl, _⟩
    · exact ⟨none, 0, by rw [h0]⟩
    · exact ⟨_, _, rfl⟩
  subst hlv
  have hml : (css.length : Int) ≤ 9223372036854775807 := by
    rcases ho.2 with ⟨_, h0⟩ | ⟨g, c, cur, _, _, _, h1, h2, _⟩
    · omega
    · unfold maxLen at h2; omega
  have HO := hide ho
  have HI := hide hi
  have HL := hide hl
  have HT := hide ht
  have HX0 : Hid ((w.alloc (.cells #[.bool true, .string ⟨#[]⟩, .slice ao css.length lc] 66)).heap[w.heap.size]? = some (.cells #[.bool true, .string ⟨#[]⟩, .slice ao css.length lc] 66 (0, 0))) := heap_alloc_new w _
  have HB0 : Hid (Below w.heap.size w (w.alloc (.cells #[.bool true, .string ⟨#[]⟩, .slice ao css.length lc] 66))) := below_alloc w _
  clear ho hi hl ht
  go_enter Try.func29, Try.ntmps29
  go_wp2_with fail
  generalize World.alloc w _ = W0 at *
  go_loopw [3, 4] (fun sv i wr => ∃ (q : Nat) (cs : List ByteArray), q ≤ css.length ∧ i = .int .i64 (q : Int) ∧ sv = .string (joinB cs) ∧ Vs textC listC pss q cs ∧ totS cs ≤ totP ((pss.take q).flatten.map toI) ∧ Below w.heap.size w wr ∧ wr.heap[w.heap.size]? = some (.cells #[.bool true, .string ⟨#[]⟩, .slice ao css.length lc] 66 (0, 0))) (fun _ i _ => css.length - (intOf i).toNat)
  case atStart => exact ⟨0, [], Nat.zero_le _, rfl, rfl, ⟨rfl, fun i p x h => by omega⟩, Nat.zero_le _, HB0.out, HX0.out⟩
  case round =>
    obtain ⟨q, cs, hq, rfl, rfl, hv, hmr, hbw, hbx⟩ := hrel
    have HV := hide hv
    have HB := hide hbw
    have HX := hide hbx
    have HTq := hide hmr
    have hx2 : wr.cell? ⟨w.heap.size, 2, none⟩ = some (.slice ao css.length lc) := cell_of_row wr _ 2 _ _ (0, 0) hbx
    clear hv hbw hbx hmr
    by_cases hlt : q < css.length
    · have cl : (q : Int) < (css.length : Int) := by omega
      obtain ⟨g, l0, b0, ao0, lo0, lc0, rfl, hsh, z0, z1, z2⟩ := its_cell HO.out HI.out HB.out q hlt
      have HQI := hide (HI.out q hlt)
      rw [hsh] at HQI
      have htd := totP_map_drop pss q (by have := HL.out; omega)
      have HTD := hide htd
      have HC := hide (ih wr ok _ _ _ _ (HQI.out.keep (fun k hk hlt => ⟨HB.out.block k hlt, hk⟩)) (by have := HT.out; omega))
      clear hsh htd
      go_wp2_with fail
      refine HC.out.mono ?_
      rintro e w2 ⟨c, hvc, rfl, hb2⟩
      have hcs := vl_size hvc
      have HVm := hide (HV.out.snoc (by have := HL.out; omega) hvc)
      have HB2 : Hid (Below w.heap.size w w2) := HB.out.trans (hb2.mono HB.out.size)
      have HX2 : Hid (w2.heap[w.heap.size]? = some (.cells #[.bool true, .string ⟨#[]⟩, .slice (some ⟨g, 0, none⟩) css.length lc] 66 (0, 0))) := by
        show _ = _
        rw [hb2.block _ (Array.getElem?_eq_some_iff.1 HX.out).1]; exact HX.out
      have HJ := hide (joinB_snoc cs c)
      have hz : ¬ 9223372036854775807 < (joinB cs).size + c.size := by rw [joinB_size]; have := HTq.out; have := HTD.out; have := HT.out; omega
      have HT2 : Hid (totS (cs ++ [c]) ≤ totP ((pss.take (q + 1)).flatten.map toI)) := by
        show _ ≤ _
        have hq2 : q < pss.length := by have := HL.out; omega
        have e1 : (pss.take (q + 1)).flatten = (pss.take q).flatten ++ pss.getD q [] := by
          rw [List.take_succ_eq_append_getElem hq2, List.flatten_append]
          simp [List.getD_eq_getElem?_getD, hq2]
        have e2 : totS [c] = c.size := by simp [totS]
        rw [e1, List.map_append, totP_append, totS_append, e2]
        have := HTq.out
        omega
      clear hvc hb2 hcs
      generalize hJJ : joinB cs = J at *
      clear hJJ
      go_wp2
      go_roundw
      case rel => exact ⟨q + 1, cs ++ [c], by omega, by go_num, by rw [HJ.out], HVm.out, HT2.out, HB2.out, HX2.out⟩
      case measure => simp [intOf]; omega
    · obtain rfl : q = css.length := by omega
      have hv2 := HV.out
      rw [HL.out] at hv2
      have HVA := hide hv2.all
      clear hv2
      rw [← HL.out] at HVA
      have hsz : (joinB cs).size < 72057594037927936 := by
        rw [joinB_size]
        have h1 := HTq.out
        rw [HL.out, List.take_length] at h1
        have := HT.out
        omega
      have HSZ := hide hsz
      have HA : Hid (∀ W, Calls Try.prog 47 #[.int .i64 192, .int .i64 ((joinB cs).size : Int)] W fun e w' => e = .returned (.string (strOfNums (hdr 192 (joinB cs).size))) ∧ Below W.heap.size W w') := fun W => ahead_any 192 (joinB cs).size W (by omega) HSZ.out
      have HH : Hid (listC cs = strOfNums (hdr 192 (joinB cs).size) ++ joinB cs) := rfl
      have hz4 : ¬ 9223372036854775807 < (strOfNums (hdr 192 (joinB cs).size)).size + (joinB cs).size := by rw [strOfNums_size]; have := hdr_length 192 (joinB cs).size; omega
      clear hsz
      generalize strOfNums (hdr 192 (joinB cs).size) = S at *
      generalize joinB cs = J at *
      go_wp2_with fail
      refine (HA.out _).mono ?_
      rintro e w2 ⟨rfl, hb2⟩
      go_wp2
      go_ret
      exact ⟨listC cs, HVA.out, by rw [HH.out]; rfl, HB.out.trans (hb2.mono HB.out.size)⟩
theorem code_any : ∀ (r : Nat) (w : World) (ok : Nat → Prop) (c0 c1 c2 : Value) (ps : List Prt), ItIs r w ok [c0, c1, c2] ps → totP (ps.map toI) < 72057594037927936 → Calls Try.prog 29 #[.agg #[c0, c1, c2]] w fun e w' => CodPost ps w e w'
  | 0, w, ok, c0, c1, c2, ps, h, ht => by
    obtain ⟨b, h1, rfl⟩ := h
    simp only [List.cons.injEq, and_true] at h1
    obtain ⟨rfl, rfl, rfl⟩ := h1
    exact code_text b w (by simp [totP, toI] at ht; omega)
  | r + 1, w, ok, c0, c1, c2, ps, h, ht => by
    rcases h with ⟨b, h1, rfl⟩ | ⟨v, css, pss, h1, ho, hok, hl, hi, rfl⟩
    · simp only [List.cons.injEq, and_true] at h1
      obtain ⟨rfl, rfl, rfl⟩ := h1
      exact code_text b w (by simp [totP, toI] at ht; omega)
    · simp only [List.cons.injEq, and_true] at h1
      obtain ⟨rfl, rfl, rfl⟩ := h1
      rw [List.map_cons, totP_cons] at ht
      exact code_list r (code_any r) w ok _ css pss ho hl hi (by omega)
end Go.Proofs.Ytoafiieciiijbaa
